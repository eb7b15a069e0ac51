import PyProof.Rows.All
import KE.IntBitsLaws
import KE.KDictOf
import KE.KDictSum
import KE.KIntText
import KE.KLam
import KE.KMinKey
import KE.KNestM
import KE.KRevIter
import KE.KSortTup
import KE.KTryMore
import KE.KUnpack
import KE.LcSums
import PySem.Challenge.RW_sealchain_k51_the_desk_refuses
set_option tactic.hygienic false
set_option Elab.async false
set_option linter.all false
set_option maxRecDepth 100000
set_option bootstrap.genMatcherCode false
set_option compiler.extract_closed false
set_option backward.eqns.nonrecursive false
set_option genSizeOf false
set_option genInjectivity false
set_option maxHeartbeats 40000000
structure PySem.W.Fast:Prop where(tw2423492052797284630 tw1596997116228387383 tw11950880009344996479 tw16444199011788119879 tw15717737718233974400 tw9626937150535394897 tw13879461692045477341 tw16290002895417908110 tw2338689108042630701 tw18181656106981626722 tw1036637332924431695 tw9798127492511296538 tw14450819208727655668 tw15856318842781690251 tw5942143472732415226 tw4863847160708647938 tw13429300687242850907 tw6655216310819125632 tw11111681949826886884 tw11960580888467649804 tw3545201126532868071 tw16516453028914308996 tw17834231747693164838 tw15927517043342659703 tw11907911100396144728 tw8680674180134999813 tw7488773869617797978 tw291503218631693183 tw15067721696884969538 tw6020227086521720002 tw10745448069719236112 tw17247951867569753471 tw13047961053904136587 tw14794069725583757904 tw3612284837908403593 tw2601388046490633077 tw15496434537550198685 tw3329813227408585858 tw7384439275038542618 tw1581785186630566809 tw12876235601755598637 tw4379604782680130728 tw14919303119200036505 tw9551965634634997731 tw14899206569302969799 tw2264939028061227385 tw6063162744927648123 tw16471559766901027655 tw5933812993129997691 tw3569837362886706567 tw161220725153831484 tw8888467543281463616 tw15736418379015013173 tw6761607830332157610 tw13470003870891756199 tw17095744353538156070 tw5140498523549417638 tw5512830220169040145 tw18365397484760583412 tw11948154091339952507 tw12039115750203963234 tw15870626309140439597 tw10183043410033897532 tw13173353720908225002 tw7540378662232734376 tw4920819609697728057 tw11962528801447451645 tw7388141003278499992 tw5663825743113667562 tw4805111207103722290 tw13358866491355326852 tw7516784004061069197 tw3828137477004772880 tw10928131329855684259 tw11258446667576857569 tw16536647018939701632 tw13232506565396198478 tw7346980302244149930 tw15332019955686643949 tw1746019655982550874 tw16901263413549607710 tw13488711952146026772 tw17463551918374799893 tw7129161781683488260 tw1255736834552515 tw13641988197637550042 tw15892210958197299161 tw4954404455047183189 tw13012579637645374769 tw692856812284069010 tw4557135379134997646 tw12948486554497106649 tw7181227856547105923 tw18186783850170842551 tw11349846515074356475 tw14346859671546170296 tw8030101581291184610 tw4464422465422231255 tw14092831470814626243 tw12482694684455017066 tw3890095742496921576 tw8358232338279948318 tw7379932597281148043 tw12015061395246423819 tw16527155404801259344 tw2034330486454503341 tw13875593604127703026 tw148836257385415111 tw899851507576117709 tw1818501621100308420 tw9095668466108612604 tw18107505858016396390 tw1390436388603187421 tw1959587557521244823 tw15168707615481564722 tw17879348064428950525 tw14010482567942369063 tw11580652051403317868 tw13730652059074729 tw17098326649308863374 tw16033534211149847604 tw3666291676502673754 tw3606724029895690773 tw16813727051342177460 tw17450329733743196434 tw11522498920599533000 tw11474167234971054823 tw16635528333676973939 tw3054295212508145535 tw12339455867975975406 tw11618641321152124141 tw8098691099542746722 tw1839444720093929501 tw8777103505215804126 tw17305880749024902578 tw8746455959460338756 tw7640517028425869646 tw14749726254651962427 tw11207103672196373223 tw12360709745626762122 tw13765361630231856582 tw928054948969324551 tw5073429808047817290 tw13523545022614596980 tw18147954069291215212 tw13854135305708839713 tw9921937021159892906 tw8610625347144659202 tw3062676368856894255 tw9196899311323825834 tw16608691501400289655 tw15040732256753226731 tw657484523909786158 tw6304715112707279818 tw2362532039459132814 tw2196167948243382332 tw9197532145306613968 tw4387256600587810664 tw5911162851568614706 tw12264133829124346462 tw18141679039231877058 tw4022842003249050147 tw4900769319028257316 tw4021415482281168149 tw8202776481958882644 tw16687369808100727851 tw1252645923324085981 tw8112040573964765936 tw1940348161431330853 tw4824310606204752464 tw15361046832798879534 tw11512921648371772646 tw5806031983056373107 tw17542771057635985085 tw10504612738447499052 tw2522494614687935208 tw6558723017887053849 tw15561814586074632680 tw14718448870944215236 tw11866752831305814471 tw2555261301966288338 tw15203884118226731392 tw6970683223975189458 tw6348666497825487357 tw4869650101357971303 tw9907981212540351109 tw14647363267392073490 tw1092283862420863437 tw12832361061684905144 tw9747681229026685000 tw6336744902318365236 tw6892585656161539865 tw5762746564931953360 tw16416768713295723820 tw11240370169486383724 tw11706059624026029824 tw3383206144234593481 tw5140907191246597190 tw9140723949076431762 tw18089459461032707839 tw5932687291492483393 tw10200213209379210634 tw17133726477654885223 tw15004354878244541794 tw12794650587709852565 tw16824867638851359963 tw8511397797238048795 tw3974559652594559353 tw8221767210890377394 tw7358802082618095520 tw13002368200064539725 tw12036192887419834135 tw1093911017996951994 tw14884321128447896225 tw13635409817250584874 tw13518554539567498096 tw486218820973370126 tw13588293925353499340 tw833119013905403917 tw2315715339831715152 tw6683164988070486777 tw10365711480789734508 tw7530332760694153282 tw12729924592572766615 tw2301758036420170108 tw4590625161198778017 tw9259687416200148789 tw13827785383335499706 tw15061880903932771484 tw12699770034077206111 tw1673684657485665179 tw5872351015436918496 tw1863789893028409485 tw492932356396350374 tw17200575290812746254 tw12645941076169289090 tw5076942476918069411 tw11184831059022940188 tw12053543541237830288 tw14694601828155115762 tw10840191651604907696 tw16016189493660540968 tw12056380306402032235 tw10325761935742391819 tw2138755081552060944 tw11619758135333157830 tw12005116324679978076 tw9432775896880733636 tw2206622652634457496 tw15174244792286129948 tw14671002470879816037 tw11987022053787893151 tw10188825928205315898 tw13842822711420477040 tw9652579386664945774 tw2442652660528241028 tw9421814585114960921 tw12921130646806867424 tw9376529386164079931 tw13417920959360460506 tw2800857377631914861 tw14162036253326820747 tw17721369716996491621 tw7603713703884391476 tw3902021015422018680 tw3252153151426549668 tw17537211939777905973 tw16965735743550706641 tw4770158587841491765 tw6662097338845277904 tw12319869929623368105 tw8023274738627817062 tw5860040920484690649 tw5365395698502710834 tw8772338270052571656 tw9132809508155240137 tw8392222048315133106 tw9714102819172163367 tw7330503686838005805 tw10942874534856036465 tw17786345511415114790 tw12778507614592476597 tw2705030281990243286 tw9571697578566952761 tw3080546869652335821 tw11829473072057582791 tw6136066076600571697 tw9553083761670281572 tw10563880205077404724 tw6372184042307666020 tw4341979916406054078 tw16717356548309187639 tw8135182049246628205 tw2311967711723261321 tw16219807035897169035 tw8749252049646274504 tw2202585520921186387 tw7969061427062978402 tw15172700938857021710 tw8887131191500473292 tw15663895483934505987 tw6142155596014776357 tw8037151263097193705 tw12908645401267941381 tw7217765854784458368 tw14346152558942112051 tw14906240656921053913 tw17934276241728704723 tw642252251703057459 tw17136872872413481343 tw14855457551973185191 tw2965086273423101419 tw2387010078184999096 tw13055215064358961681 tw1701653848185929688 tw9177704516304919710 tw9569480256430501194 tw11896232241614238775 tw1533440472322425857 tw2332038555309715083 tw3578499605374175225 tw5021416475470741275 tw12976126346413385309 tw11910541484107290940 tw11674279496886517029 tw8970021771356424341 tw13050652294099742619 tw5937260309887949441 tw8998209069474323799 tw488706913174074927 tw16166878627241263718 tw5638549954070086998 tw16722980885811266300 tw10581226401321320263 tw5987732276678006922 tw11353729419593318250 tw4492512078189614556 tw8566165917992867051 tw10149928755346080417 tw10219610572790484935 tw13873366448306058662 tw1717612581832939727 tw1477860492997975365 tw3524648518414971907 tw2580089533553539425 tw6605366997249624946 tw14137415151317535479 tw11179965868136881922 tw14735089493979790252 tw14559464864930593436 tw7178814758345468467 tw6104037575584941870 tw10705656319102705793 tw15136685883589024961 tw15642018601082799521 tw10580787963338826183 tw17190577332153791040 tw12635716847670799631 tw14291557309872978164 tw3838855014814737432 tw5108223674601971985 tw7139684485244304108 tw5862345262027458913 tw12083316342285094677 tw9348149728588612870 tw6787649046393994590 tw3222679041251828345 tw10881381644526520551 tw10833519010274371209 tw8226792594825183785 tw18089928395794561829 tw17982838196380604612 tw8940528581874149194 tw2736553687234294739 tw1380788064445462328 tw18396395151556705377 tw3574879280947053480 tw17423428854413809530 tw4158997092137049937 tw10896415130907674468 tw3524605455640632968 tw7521109309042798124 tw4609995661984614693 tw2489326349059502589 tw12438416503481967266 tw8477722841916556645 tw4179091449008577387 tw2308781752172380692 tw2262013577045092375 tw13424757376505409842 tw8751649884056831882 tw1820704999256754656 tw3001903949505827715 tw1005433709115748803 tw17531701041295778951 tw14593079744090503553 tw13831097459835062771 tw9092954680672189205 tw6498971032710408303 tw4335760024408067619 tw3183648742601083092 tw6085061403504157015 tw9668670128567023232 tw1803017366655008479 tw14514840516146870389 tw13187074361414918472 tw11011363713729132483 tw1090242248186964665 tw13447366080216708583 tw13030765030699456823 tw4809017849495080638 tw17525409494500655917 tw14684897596658097246 tw2918297079147968434 tw2504659571683985862 tw2010688487413740733 tw17689703194449155397 tw16646171782316419101 tw15210101003073552194 tw14882244195440624566 tw11622930817769624699 tw10926675989763041116 tw92563798168331746 tw9425319331008655254 tw8715987524685256763 tw8455447338096295840 tw10507184914352979227 tw3123241556720093252 tw12484411628147160696 tw11640689213866770603 tw8664429493400762157 tw5928349030017154983 tw4824381336548468948 tw4561468423083704012 tw3388968544890566149 tw2089477951639018607 tw16544318539190130789 tw15585497575509840657 tw15278516677211521094 tw15266457644713905824 tw14307707551042639050 tw14036721326301542308 tw8733212412559503170 tw17726705135430702713 tw15675546750417158066 tw13984746425144662875 tw9193276686904412352 tw8997081372608621596 tw6559425554046856404 tw18149094307279720252 tw8560163808343079288 tw7800014518544425572 tw5188582954758348890 tw12974690408304113766 tw897845872644724090 tw8891974949589433072 tw8239695272655385043 tw8044462491369832094 tw14588345459553784136 tw10677031937376690577 tw7980737433667098310 tw16297446856399003944 tw14194637957780804599 tw11228481143330278556 tw9390591792820692307 tw45668473367297029 tw2766045220240941309 tw18056221976165715740 tw15442180201154249377 tw5826112871503425125 tw3412138648993553350 tw2681152621094834459 tw18021252509942742366 tw13955615555501439125 tw11940369972738707934 tw9494452083664784264 tw7236175065351026747 tw808469029638187891 tw13374871895108195694 tw2573513381762375718 tw16593723652764797024 tw8511469724328716380 tw4576030061378018478 tw9086455567559394298 tw5036988566191900003 tw2682109612825662976 tw2624333258006625759 tw6447880915487107560 tw14605668731312590802 tw9720189113733702064 tw420439956236555341 tw2741549481801958893 tw17508584818104397462 tw17394688641214675003 tw16111503388535902091 tw15990085943169233701 tw12779219669720761678 tw4712941766717209216 tw2268991206593126859 tw16560537293562249820 tw5978645361928146440 tw16457270826561310063 tw1444421058366986288 tw956848731179533834 tw7101098734264310228 tw482135816929549630 tw16652906744560702593 tw15829595387313727002 tw13376362726038499792 tw12120628569408773486 tw5268940505585932114 tw14102281775236382864 tw13258350846520760767 tw9566454393394471926 tw3860697045189991902 tw11319370338483036882 tw9716236754367127393 tw9001048321136990254 tw3875386066627129100 tw10268511920699115986 tw7744715873230178064 tw5987374447870050308 tw7956357294341790480 tw5896326819595632896 tw14666741873335410895 tw10652722468594249805 tw8337675550610178459 tw15149807403074945232 tw13744855641510730890 tw9372727087106740874 tw16181596533781547822 tw841795023150020762 tw10481037539750871221 tw9310500949905144902 tw17434253039814214153 tw6993607609793105765 tw17281665074676012286 tw946460697877011709 tw10236373438270348358 tw12061211887128172970 tw11848823762780187188 tw5325047124476002408 tw53086822627960410 tw2141044473052435673 tw17663029230175950516 tw14669773492940137515 tw12233655106194689670 tw11417170649918215301 tw6948713879545397751 tw5973161417826380272 tw14408805565244763552 tw9587149783761791303 tw10868226134052102169 tw6142572546034190445 tw5251834433114628195 tw12646435679528876586 tw4046007968842764091 tw11252120152192823471 tw5027998625765022339 tw7586666477101538141 tw14591987133593974341 tw15119914880835662730 tw4226355128539739068 tw9597917091865326124 tw5384237179927434601 tw3272505872312753047 tw17027110538668865333 tw1687369777825867571 tw10819886805182570394 tw8980306013744795499 tw17067724437675689258 tw12144019041846388903 tw15982556900179975321 tw14813257779169499210 tw10138920697964905692 tw7910011213834321794 tw16953680285869739639 tw16715750027908059953 tw1399712939872826882 tw13110359977199750396 tw12281546583525844529 tw3550595836848426043 tw7817115636991595911 tw5750806333545994310 tw18287232972253258412 tw18257473599965497044 tw18019265469053377771 tw15348520201945378745 tw15053040173322829395 tw5958307376609757350 tw2087781171192032430 tw6947729512500855539 tw8260506182081483963 tw5952016851778190422 tw11052956166484775901 tw315869111653640519 tw12068921768008587965 tw827649149120924980 tw14116445074799567453 tw9489791907478098705 tw8599149267596980939 tw7852776302415355039 tw494000968222364193 tw17311264960465454394 tw16755169542979673601 tw14677915919826707938 tw2654035256105629693 tw18024631379897131317 tw18014746123505487538 tw17941913325445286220 tw15909755783315409359 tw14672211591089466165 tw1334193187329809515 tw10587006300985867902 tw10015069457331614854 tw3480483171168953362 tw6391024094120777141 tw17573569828613982374 tw15526755516453718653 tw14350851465351628828 tw10107815147698162963 tw9715593516753849869 tw8611037829097157140 tw17639858414874352021 tw1176710740268623936 tw7211361736769161042 tw6708451762451715273 tw1962667514529099488 tw12169703781490366733 tw10000479105092802595 tw850146355560656494 tw13095277773135870852 tw7275228219860898889 tw7218909395479673218 tw4721359018675873139 tw2566329709962925172 tw16195185589382306854 tw11045208424082676938 tw8404470489435385999 tw7560038206478601722 tw6714448429851614381 tw39750122645774166 tw17132276492465393969 tw1092330398577446947 tw18093956229222467071 tw14782231948876643881:True)
section
open PySem PySem.W PyProof.Rows
set_option maxHeartbeats 0 in
open_top Lake.hd for PySem.Challenge.rw_sealchain_k51_the_desk_refuses
end
namespace Lake
def r4 {α:Sort _}{a:α}:a=a:=rfl
def N9 {p:Prop}(h:p:=by lia):p:=h
def X9 {p:Prop}(h:p:=by simp):p:=h
def Z9 {p:Prop}(h:p:=by decide):p:=h
def O9 {p:Prop}(h:p:=by decide +kernel):p:=h
def I9 {p:Prop}(h:p:=by rfl):p:=h
def W9 {p:Prop}(h:p:=by simp;lia):p:=h
def r9 {p:Prop}(h:p:=by kernel_rfl):p:=h
def Z8 {p:Prop}(h:p:=by size_fits):p:=h
def O8 {p:Prop}(h:p:=by first|exact .inl r4|exact .inr r4):p:=h
def mY {α:Type _}{a:α}l{k:List α}(h:a∈k):a∈l++k:=List.mem_append_right l h
def mZ {α:Type _}b{a:α}{l:List α}(h:a∈l):a∈b::l:=List.mem_cons_of_mem b h
theorem mX {α:Type _}{a:α}{l:List α}:a∈a::l:=List.mem_cons_self
def cX(h:∀q:Prop,(p->q)->q):p:=h p id
def oX {α M:Type _}{o:Option α}{f:α->Option M}{b:M}(h:o.bind f=some b):∃a,o=some a/\f a=some b:=Option.bind_eq_some_iff.mp h
def oY {α M:Type _}{f:α->M}{o:Option α}{b:M}(h:o.map f=some b):∃a,o=some a/\f a=b:=Option.map_eq_some_iff.mp h
def eX {α M:Type _}{o:Option α}{f:α->Option M}{b:M}(h:o.bind f=some b)(k:∀a,o=some a->f a=some b->G):G:=(oX h).elim λa x=>k a x.1 x.2
def eB {α M:Type _}{f:α->M}{o:Option α}{b:M}(h:o.map f=some b)(k:∀a,o=some a->f a=b->G):G:=(oY h).elim λa x=>k a x.1 x.2
def wX:=@PySem.wpAny_bind
def wY:=@PySem.wpAny_pure
def vZ:=@PySem.Heap.get?_push_of_some
def vY:=@PySem.Heap.get?_push_size
def vX:=@PySem.Heap.lt_size
def vW:=@PySem.Heap.SameBut.update
def vV {α:Type _}{l:List α}{a:α}(h:l[i]? = some a):∃h:i<l.length,l[i]=a:=List.getElem?_eq_some_iff.mp h
def vU {α:Type _}{l:List α}{i:Nat}h:l[i]? = some l[i]:=List.getElem?_eq_getElem h
def vT (n:Nat):n<=n:=Nat.le_refl n
def vS {a b:Nat}(h:a<b):a≠b:=Nat.ne_of_lt h
def vR {n m k:Nat}:n<=m->m<=k->n<=k:=Nat.le_trans
def vQ {n m k:Nat}:n<m->m<=k->n<k:=Nat.lt_of_lt_of_le
def vP {α:Type _}{a b:α}{l:List α}(h:b∈a::l):b=a\/b∈l:=List.mem_cons.mp h
def vK {α:Type _}{a b:α}(h:some a=some b):a=b:=Option.some.inj h
def vJ {α M:Type _}(a:α)(f:α->Option M):(some a).bind f=f a:=rfl
def vI {α M:Type _}{as:List α}(f:α->M):(as.map f).length=as.length:=List.length_map f
def vH {α:Type _}{l:List α}:l.toArray.size=l.length:=rfl
def vG {α:Type _}{xs:Array α}:xs.toList.length=xs.size:=rfl
def vE {α:Type _}{a:α}{as:List α}:(a::as).length=as.length+1:=rfl
def vD a b:((a && b)=true)=(a=true/\b=true):=Bool.and_eq_true a b
def vC {α:Type _}{a:α}{l:List α}(h:i≠j):(l.set i a)[j]? = l[j]?:=List.getElem?_set_ne h
def vB {α M:Type _}{f:α->M}{l:List α}{i:Nat}:(l.map f)[i]? = Option.map f l[i]?:=List.getElem?_map
def vA {α:Type _}{as bs:List α}:(as++bs).length=as.length+bs.length:=List.length_append
def uZ {α M:Type _}{f:α->M}{a:α}{l:List α}:(a::l).map f=f a::l.map f:=rfl
def uY:false≠true:=Bool.false_ne_true
def uW:(false=true)=False:=Bool.false_eq_true
def uV {α:Type _}{x:Option α}(h:x.isSome=true):∃a,x=some a:=Option.isSome_iff_exists.mp h
def uU {α:Type _}{a b:α}(h:a∈[b]):a=b:=List.mem_singleton.mp h
def uS {α:Type _}{l:List α}{p:α->Bool}(h:l.all p=true):∀x∈l,p x=true:=List.all_eq_true.mp h
def uR {α:Type _}(as:List α):as++[]=as:=List.append_nil as
def uO n:0<=n:=Nat.zero_le n
def kh[Decidable p](h:p):decide p=true:=decide_eq_true h
def mv[Decidable p](h:¬p):decide p=false:=decide_eq_false h
def mw[Decidable p](h:decide p=true):p:=of_decide_eq_true h
noncomputable section
abbrev _root_.PySem.Shared.z (s:PySem.Shared):=s.heap.objs.size
open PySem.W (Frag kia_one fnOf mg_of)
open List (mem_append getElem?_set_self mem_filterMap nodup_cons of_mem_zip getElem?_append_left mem_of_getElem? length_take all_cons any_cons map_nil nodup_nil length_set lookup_cons length_replicate append_assoc length_range getElem_range mem_map mem_singleton find?_cons map_append take_add_one mem_range getElem?_eq_none ext_getElem? map_map not_lt pairwise_cons lt_irrefl lt_trans nil_perm cons_lt_cons_iff cons_append all_eq_true getElem?_zip_eq_some getD_eq_getElem?_getD length_zip zip_cons_cons reverse_cons forall_mem_cons length_nil map_set)
open Nat (le_of_lt ne_of_gt le_of_eq lt_succ_self le_succ lt_of_le_of_lt lt_succ_of_lt)
open PySem.F (slot_tuple_add slot_dict_get entry_dict_get plainAttrs_dict plainAttrs_list slot_tuple_iterator_next slot_zip_next entry_zip_next args_zip_next_1 called_set slot_set_iter plain_extend_loop slot_tuple_lt slot_tuple_gt called_list slot_list_getattribute slot_str_split entry_str_split args_str_split_2 slot_str_join type_str_join type_str_split)
abbrev QV:=PySem.Value->PySem.Shared->Prop
abbrev AO:=List (PySem.Addr×PySem.Obj)
abbrev SV:=PySem.Str->Option PySem.Value
abbrev LU:=List PySem.Value
abbrev AV:=Array PySem.Value
abbrev LS:=List PySem.Str
abbrev QD:=List PySem.Expr
abbrev LN:=List Nat
abbrev LI:=List Int
abbrev OI:=Option Int
namespace L2
open PySem PySem.Spec PyProof.Rows
abbrev bE (e:Expr)(es:QD)(v:PySem.Env):Prop:=starEach (e::es) v=(false,eval e v)::starEach es v
abbrev ce (e:Expr)(v:PySem.Env):Prop:=starEach [e] v=[(false,eval e v)]
abbrev dL (p:Pos)(es:QD)(v:PySem.Env):Prop:=(backTo p (starEach es v)).any (·.1)=false
abbrev aS (x:Str):Prop:=(x == ("__debug__" : Str))=false
abbrev km (x:Str):Prop:=(x == ("__classdict__" : Str))=false
abbrev m4 (p:Pos)(e:Expr)(v:PySem.Env):Prop:=((backTo p (starEach [e] v)).all (λx=>!x.1) && (backToKw p (keywordEach [] v)).all (λx=>x.1.isSome)
  && decide (([e]:QD).length+([]:List Keyword).length+(if([]:List Keyword).isEmpty then 0 else 1)<30))=true
abbrev d8:=Sum Int Str
noncomputable def qZ:d8->Value->Bool
 |.inl k,v=>Value.isInt k v
 |.inr x,v=>Value.isStrOf x v
noncomputable def XU (w:World):d8->Int
 |.inl k=>hashInt k
 |.inr x=>hashStr w x
theorem cz:∀ {k:d8}{v:Value},qZ k v=true->(∃i t,k=Sum.inl i/\v=Value.int i t)\/(∃x t,k=Sum.inr x/\v=Value.str x t)
 |.inl i,v,h=>by
  obtain⟨t,e⟩:=Value.isInt_shape h;exact .inl ⟨i,t,r4,e⟩
 |.inr x,v,h=>by
  obtain⟨t,e⟩:=Value.isStrOf_shape h;exact .inr ⟨x,t,r4,e⟩
def DW (i)t:qZ (.inl i) (.int i t)=true:=by simp[qZ,Value.isInt]
def DX (x)t:qZ (.inr x) (.str x t)=true:=by simp[qZ,Value.isStrOf]
def OK a b:decide ((Sum.inl a:d8)=Sum.inl b)=(a == b):=by
 lia
def OL a b:decide ((Sum.inr a:d8)=Sum.inr b)=decide (a=b):=by
 simp
def OM (a:Int)(b:Str):decide ((Sum.inl a:d8)=Sum.inr b)=false:=I9
def ON (a:Str)(b:Int):decide ((Sum.inr a:d8)=Sum.inl b)=false:=I9
def bR (prog:Program)(w:World):PySem.KeyKind prog w d8 where
 is:=qZ
 hash:=XU w
 inj:=λv a b ha hb=>by
  grind[cz]
 byValue:=λk v h=>by
  rcases cz h with⟨i,t,rfl,rfl⟩|⟨x,t,rfl,rfl⟩<;>rfl
 pyHash:=λM h=>by
  rcases cz M with⟨i,t,rfl,rfl⟩|⟨x,t,rfl,rfl⟩
  .exact wpAny_pyHash_int h
  .exact wpAny_pyHash_str h
 eqBool:=λhu M h=>by
  rcases cz hu with⟨i,t,rfl,rfl⟩|⟨x,t,rfl,rfl⟩
  .rcases cz M with⟨j,u,rfl,rfl⟩|⟨y,u,rfl,rfl⟩
   .rw[OK]at h;exact wpAny_eqBool_int h
   .rw[OM]at h;exact SeqAt.EqAt.int_str i t y u _ _ _ _ h
  .rcases cz M with⟨j,u,rfl,rfl⟩|⟨y,u,rfl,rfl⟩
   .rw[ON]at h;exact SeqAt.EqAt.str_int x t j u _ _ _ _ h
   .rw[OL]at h;exact wpAny_eqBool_str h
 «strs»:=λk x t v h=>by
  rcases cz h with⟨i,u,rfl,e⟩|⟨y,u,rfl,e⟩
  .exact nomatch e
  .injection e with O _;subst O;cases v<;>rfl
def vL prog w(i)t:(bR prog w).is (.inl i) (.int i t)=true:=DW i t
def vM prog w(x)t:(bR prog w).is (.inr x) (.str x t)=true:=DX x t
set_option genInjectivity true in
inductive V where
 |non|bl (b:Bool)|int (i:Int)|str (x:Str)|byt (b:Array UInt8)|flt (b:UInt64)|ref (a:Addr)|ty (n:String)
 deriving DecidableEq
def aA:V->Value->Prop
 |.non,u=>u=Value.none
 |.bl b,u=>u=Value.bool b
 |.int i,u=>∃t,u=Value.int i t
 |.str x,u=>∃t,u=Value.str x t
 |.byt b,u=>∃t,u=Value.bytes b t
 |.flt b,u=>∃t,u=Value.float b t
 |.ref a,u=>u=Value.ref a
 |.ty n,u=>u=Value.type n
abbrev aD:List V->LU->Prop:=Paired aA
def aD.length (r:aD xs us):xs.length=us.length:=Paired.length r
theorem aD.get:∀ {xs:List V}{us:LU}{i:Nat}{x:V},aD xs us->xs[i]? = some x->∃u,us[i]? = some u/\aA x u
 |_,_,_,_,.nil,e=>by simp at e
 |_,_,0,_,.cons r _,e=>by simp_all
 |_,_,i+1,x,.cons _ t,e=>by
  obtain⟨u,h1,h2⟩:=aD.get t (by simpa using e);simp_all
theorem aD.append {xs ys:List V}{us ws:LU}(h:aD xs us)(s:aD ys ws):aD (xs++ys) (us++ws):=h.rec s λr _ i=>.cons r i
theorem aD.take:∀ {xs:List V}{us:LU}n,aD xs us->aD (xs.take n) (us.take n)
 |_,_,0,_=>.nil
 |_,_,_+1,.nil=>.nil
 |_,_,n+1,.cons r t=>.cons r (aD.take n t)
theorem aD.drop:∀ {xs:List V}{us:LU}n,aD xs us->aD (xs.drop n) (us.drop n)
 |_,_,0,r=>r
 |_,_,_+1,.nil=>.nil
 |_,_,n+1,.cons _ t=>aD.drop n t
def gx:Option V->Option Value->Prop
 |some v,some u=>aA v u
 |none,none=>True
 |_,_=>False
def KV {κ:Type}:List (κ×V)->List (κ×Value)->Prop:=Paired λ(p:κ×V) (q:κ×Value)=>p.1=q.1/\aA p.2 q.2
noncomputable def kV:d8->V
 |.inl i=>.int i
 |.inr x=>.str x
set_option genInjectivity true in
inductive HO where
  |lst (xs:List V)
  |tup (xs:List V)
  |dK (ay:List (d8×V)) (ob:Obj)|dT (ay:List (List d8×V))
  |set (S:Int->Bool) (n:Nat)
  |ins (C dx:Addr) (fs:List (Str×V))
  |own (x:Addr)
  |xd (fs:List (Str×V))
  |met (f x:Addr)
  |rng (lo hi:Int)
  |frz (o:Obj) (u:HO)
  |tbl (q:Str)
  |ext (φ:Heap->Prop)
abbrev Hp:=Addr->Option HO
noncomputable def upd (H:Hp)(a:Addr)(o:HO):Hp:=λb=>if b=a then some o else H b
def ae:upd H a o a=some o:=by unfold upd;rw[if_pos r4]
theorem af (h:b≠a):upd H a o b=H b:=by unfold upd;rw[if_neg h]
def ko:upd (upd H a o) a u=upd H a u:=by
 grind[upd]
def Ss {H:Hp}{a b:Addr}{o u:HO}(h:H a=some o)(h':H b=some u)(d:o≠u):a≠b:=by
 lia
def ar {H:Hp}{a b:Addr}{o:HO}(h:H a=some o)(h':H b=none):a≠b:=by
 lia
section
variable (P:Program) (w:World)
def aE (H:Hp)(h:Heap)(a:Addr):HO->Prop
 |.lst xs=>xs.length<=sizeLine/\∃(its:LU)(n:Nat),aD xs its/\h.get? a=some { cls:=.type "list",data:=.seq its.toArray n }
 |.tup xs=>xs.length<=sizeLine/\∃its:LU,aD xs its/\IsTup h a its.toArray
 |.dK ay ob=>h.get? a=some ob/\ay.length<=sizeLine/\(a == sysModules)=false/\∃vs,KV ay vs/\h.DictOf (bR P w) a vs
 |.dT ay=>ay.length<=sizeLine/\(a == sysModules)=false/\∃xs:List (List d8×Addr×Value),
   Paired (λ(p:List d8×V) (q:List d8×Addr×Value)=>p.1=q.1/\H q.2.1=some (.tup (p.1.map kV))/\aA p.2 q.2.2) ay xs /\
   ∃o es U,h.get? a=some o/\o.ExactDict/\o.data=.dict es U/\es.toList=xs.map (entryOfKey (tupleKind (bR P w)))/\(xs.map (·.1)).Nodup
 |.set S n=>h.SetOf (intKind P w) a S n
 |.ins C dx fs=>H dx=some (.own a)/\fs.length<=1000/\dx≠a/\h.get? a=some (PySem.W.instObj C dx) /\
   ∃mA,h.Ns1 dx mA/\(∀f,gx (fs.lookup f) (mA f))/\PySem.Within mA (fs.map (·.1))
 |.own _=>∃o,h.get? a=some o
 |.xd fs=>∃mA,h.Ns1 a mA/\∀f,gx (fs.lookup f) (mA f)
 |.rng lo hi=>∃t u v,h.get? a=some { cls:=.type "range",data:=.fields #[.int lo t,.int hi u,.int 1 v] }
 |.frz o u=>h.get? a=some o/\aE H h a u
 |.tbl q=>∃ps:AV,h.get? a=some { cls:=.none,data:=.fields ps }/\TriplesOk ps.toList/\∀M O,codeAmong M ps.toList=some O->∃(c:Addr)(oc:Obj)(u:HO)(vs:AV)(t:Tok),O=.ref c/\H c=some (.frz oc u)/\oc.data=.fields vs/\vs[1]? = some (.str q t)
 |.met f x=>h.get? a=some (PySem.W.methodObj (.ref f) (.ref x))
 |.ext φ=>φ h/\(∃o,h.get? a=some o)/\∀h1 h2:Heap,φ h1->(∀o,h1.get? a=some o->h2.get? a=some o)->φ h2
def gy (H:Hp)(h:Heap):Prop:=∀a o,H a=some o->aE P w H h a o
end
section
variable {P:Program}{w:World}{H H':Hp}{h h':Heap}{a:Addr}{o:HO}
def aE.lt (x:aE P w H h a o):a<h.objs.size:=by
 cases o with
 |lst xs=>obtain⟨z,z,z,z,e⟩:=x;exact vX e
 |tup xs=>obtain⟨z,z,z,p⟩:=x;exact p.lt
 |dK ay ob=>exact vX (And.left x)
 |dT ay=>obtain⟨z,z,z,z,o,z,z,e,z⟩:=x;exact vX e
 |set S n=>obtain⟨o,z,z,z,e,z⟩:=x;exact vX e
 |ins C dx fs=>obtain⟨z,z,z,e,z⟩:=x;exact vX e
 |own y=>obtain⟨z,e⟩:=x;exact vX e
 |xd fs=>obtain⟨z,⟨z,z,z,e,z⟩,z⟩:=x;exact vX e
 |rng lo hi=>obtain⟨z,z,z,e⟩:=x;exact vX e
 |frz ob u=>obtain⟨e,z⟩:=x;exact vX e
 |tbl q=>obtain⟨z,e,z⟩:=x;exact vX e
 |met f y=>exact vX (show h.get? a=some _ from x)
 |ext φ=>obtain⟨z,⟨z,e⟩,z⟩:=x;exact vX e
theorem Paired.mapP {α U:Type}{F G:α->U->Prop}{M:List α}{O:List U}(h:Paired F M O)(f:∀a b,F a b->G a b):Paired G M O:=h.rec .nil λr _ i=>.cons (f _ _ r) i
def aE.stay (x:aE P w H h a o)(k:∀b u,(b=a\/H b=some (.own a))->h.get? b=some u->h'.get? b=some u)
  (U:∀b,H b=some (.own a)->H' b=some (.own a)) (i:∀b xs,H b=some (.tup xs)->H' b=some (.tup xs)) (hf:∀b o u,H b=some (.frz o u)->H' b=some (.frz o u)):aE P w H' h' a o:=by
 induction o with
 |lst xs=>obtain⟨z,its,n,r,e⟩:=x;exact⟨z,its,n,r,k _ _ (.inl r4) e⟩
 |tup xs=>obtain⟨z,its,r,ob,e,c⟩:=x;exact⟨z,its,r,ob,k _ _ (.inl r4) e,c⟩
 |dK ay j=>obtain⟨g,z,y,vs,r,ob,es,M,e,c⟩:=x;exact⟨k _ _ (.inl r4) g,z,y,vs,r,ob,es,M,k _ _ (.inl r4) e,c⟩
 |dT ay=>
  refine cX λG K=>?_;obtain⟨z,y,xs,r,ob,es,M,e,c⟩:=x;apply K;exact⟨z,y,xs,Paired.mapP r λp q z=>⟨z.1,i _ _ z.2.1,z.2.2⟩,ob,es,M,k _ _ (.inl r4) e,c⟩
 |set S n=>obtain⟨ob,es,M,t,e,c⟩:=x;exact⟨ob,es,M,t,k _ _ (.inl r4) e,c⟩
 |ins C dx fs=>
  refine cX λG K=>?_;obtain⟨d,z,ne,e,mA,⟨od,es,M,e2,c⟩,r⟩:=x;apply K;exact⟨U _ d,z,ne,k _ _ (.inl r4) e,mA,⟨od,es,M,k _ _ (.inr d) e2,c⟩,r⟩
 |own y=>obtain⟨ob,e⟩:=x;exact⟨ob,k _ _ (.inl r4) e⟩
 |xd fs=>obtain⟨mA,⟨od,es,M,e,c⟩,r⟩:=x;exact⟨mA,⟨od,es,M,k _ _ (.inl r4) e,c⟩,r⟩
 |rng lo hi=>obtain⟨t,u,v,e⟩:=x;exact⟨t,u,v,k _ _ (.inl r4) e⟩
 |frz ob u l=>obtain⟨e,q⟩:=x;exact⟨k _ _ (.inl r4) e,l q⟩
 |tbl q=>obtain⟨ps,e,t,c⟩:=x;exact⟨ps,k a _ (.inl r4) e,t,λO m z=>let ⟨d,oc,u,vs,tk,s,A,B⟩:=c O m z;⟨d,oc,u,vs,tk,s,hf _ _ _ A,B⟩⟩
 |met f y=>
  have e:=x;exact k a _ (.inl r4) e
 |ext φ=>obtain⟨p,⟨o,e⟩,st⟩:=x;exact⟨st _ _ p λo q=>k _ _ (.inl r4) q,⟨o,k _ _ (.inl r4) e⟩,st⟩
def gy.lt (x:gy P w H h)(e:H a=some o):a<h.objs.size:=(x a o e).lt
def gy.fresh (x:gy P w H h)(e:h.objs.size<=a):H a=none:=by
 cases q:H a with
 |none=>rfl
 |some u=>exact absurd (vQ (x.lt q) e) (Nat.lt_irrefl _)
def gy.kept (x:gy P w H h)(k:∀b u,h.get? b=some u->h'.get? b=some u):gy P w H h':=λa o e=>
 (x a o e).stay (λb u z=>k b u) (λz q=>q) (λz z q=>q) λz z z q=>q
def gy.laid (x:gy P w H h)(k:∀b u,h.get? b=some u->h'.get? b=some u)(hp:h.objs.size<=a)(new:aE P w (upd H a o) h' a o):gy P w (upd H a o) h':=λb u e=>by
 have hn:=x.fresh hp;by_cases hb:b=a
 .simp_all[ae]
 .rw[af hb]at e;exact(x b u e).stay (λc v z=>k c v) (λc q=>by rw[af (ar q hn)];exact q) (λc xs q=>by rw[af (ar q hn)];exact q) λc o xs q=>by rw[af (ar q hn)];exact q
end
def Rd (H:Hp)(a:Addr)(u:HO):Prop:=H a=some u\/∃o,H a=some (.frz o u)
def Rd.ok (r:Rd H a u)(x:gy P w H h):aE P w H h a u:=by
 rcases r with r|⟨o,r⟩
 .exact x a u r
 .obtain⟨_,q⟩:=x a _ r;exact q
def Su:Option HO->Prop
 |some (.lst _)=>True
 |some (.dK _ _)=>True
 |some (.dT _)=>True
 |some (.set _ _)=>True
 |some (.ins _ _ _)=>True
 |some (.ext _)=>True
 |_=>False
section
variable {P:Program}{w:World}{H:Hp}{h h':Heap}{x e:Addr}{o':HO}
def gy.write (ok:gy P w H h)(M:Su (H x))(he:e=x\/H e=some (.own x))(k:∀b u,b≠e->h.get? b=some u->h'.get? b=some u)(a:∃u,h'.get? e=some u)
  (new:aE P w (upd H x o') h' x o'):gy P w (upd H x o') h':=λb u q=>by
 have O:∀c y,H c=some (.own y)->c≠x:=λc y r z=>by subst z;rw[r]at M;exact M
 by_cases hb:b=x
 .simp_all[ae]
 .rw[af hb]at q;by_cases f:b=e
  .have d:H b=some (.own x):=by
    lia
   rw[q]at d;cases d;obtain⟨v,g⟩:=a;exact⟨v,by rw[f];exact g⟩
  .refine(ok b u q).stay (λc v hc r=>k c v ?_ r) (λc r=>by rw[af (O c b r)];exact r) (λc xs r=>by rw[af ((λc xs r z=>by subst z;rw[r]at M;exact M) c xs r)];exact r) λc o xs r=>by rw[af (λz=>by subst z;rw[r]at M;exact M)];exact r
   grind
end
structure Un (fs ex:List Addr)(H H':Hp)(h h':Heap):Prop where
 keep:∀b o,h.get? b=some o->H b=none->b∉fs->b∉ex->h'.get? b=some o
 slot:∀b o,h.get? b=some o->H b=none->b∈fs->b∉ex->∃sl,h'.get? b=some { o with slots:=sl }
 free:∀b o,h.get? b=some o->H b=none->b∉ex->H' b=none
 there:∀b o,h.get? b=some o->b∉ex->∃o',h'.get? b=some o'
 tups:∀b xs,H b=some (.tup xs)->H' b=some (.tup xs)
 frzs:∀b o u,H b=some (.frz o u)->H' b=some (.frz o u)
 tbls:∀b q,H b=some (.tbl q)->H' b=some (.tbl q)
section
variable {fs fs' ex ex':List Addr}{H H1 H2:Hp}{h h1 h2 h':Heap}{a x e:Addr}{o:HO}
def Un.any (u:Un fs ex H H1 h h1)(q:h.get? b=some ob)(n:H b=none)(hx:b∉ex):∃sl,h1.get? b=some { ob with slots:=sl }:=by
 by_cases hb:b∈fs
 .exact u.slot b ob q n hb hx
 .exact⟨ob.slots,u.keep b ob q n hb hx⟩
def Un.trans (a:Un fs ex H H1 h h1)(b:Un fs ex H1 H2 h1 h2):Un fs ex H H2 h h2 where
 keep:=λc ob q n hc hx=>b.keep c ob (a.keep c ob q n hc hx) (a.free c ob q n hx) hc hx
 slot:=λc ob q n hc hx=>by
  obtain⟨sl,M⟩:=a.slot c ob q n hc hx;obtain⟨O,e2⟩:=b.slot c _ M (a.free c ob q n hx) hc hx;exact⟨O,e2⟩
 free:=λc ob q n hx=>by
  obtain⟨o',M⟩:=a.there c ob q hx;exact b.free c o' M (a.free c ob q n hx) hx
 there:=λc ob q hx=>by
  obtain⟨o',M⟩:=a.there c ob q hx;exact b.there c o' M hx
 tups:=λc xs q=>b.tups c xs (a.tups c xs q)
 frzs:=λc ob xs q=>b.frzs c ob xs (a.frzs c ob xs q)
 tbls:=λc ps q=>b.tbls c ps (a.tbls c ps q)
def Un.kept (k:∀b u,h.get? b=some u->h'.get? b=some u):Un fs ex H H h h':=
 ⟨λb ob q z z z=>k b ob q,λb ob q z z z=>⟨ob.slots,k b ob q⟩,λz z z n z=>n,λb ob q z=>⟨ob,k b ob q⟩,λz z q=>q,λz z z q=>q,λz z q=>q⟩
def Un.refl:Un fs ex H H h h:=Un.kept λz z q=>q
def Un.laid (k:∀b u,h.get? b=some u->h'.get? b=some u)(hp:h.objs.size<=a)(hn:H a=none):Un fs ex H (upd H a o) h h' where
 keep:=λb u q z z z=>k b u q
 slot:=λb u q z z z=>⟨u.slots,k b u q⟩
 free:=λb u q n z=>by rw[af (vS (vQ (vX q) hp))];exact n
 there:=λb u q z=>⟨u,k b u q⟩
 tups:=λb xs q=>by rw[af (ar q hn)];exact q
 frzs:=λb u xs q=>by rw[af (ar q hn)];exact q
 tbls:=λb ps q=>by rw[af (ar q hn)];exact q
def Un.write (M:Su (H x))(he:e=x\/H e=some (.own x))(k:∀b u,b≠e->h.get? b=some u->h'.get? b=some u)(O:∃u,h'.get? e=some u):Un fs ex H (upd H x o) h h':=by
 have hx:∀b,H b=none->b≠x:=λb n z=>by subst z;rw[n]at M;exact M
 have hm:∀b u,H b=some u->¬Su (some u)->b≠x:=λb u q nm z=>by simp_all
 refine⟨λb u q n y y=>k b u (λb n z=>by
  simp_all b n) q,λb u q n y y=>⟨u.slots,k b u (λb n z=>by
  simp_all b n) q⟩,λb u q n y=>by rw[af (hx b n)];exact n,λb u q y=>?_,
  λb xs q=>by rw[af (hm b _ q λz=>z)];exact q,λb u xs q=>by rw[af (hm b _ q λz=>z)];exact q,λb ps q=>by rw[af (hm b _ q λz=>z)];exact q⟩
 grind
end
noncomputable def trk (h:Heap)(H:Hp):List Addr:=(List.range h.objs.size).filter λa=>(H a).isSome
def vN (h:Heap)(H:Hp):Heap:=PySem.W.hideAll h (trk h H)
def DY h H:(vN h H).objs.size=h.objs.size:=PySem.W.hideAll_size _ _
theorem oG (e:h.get? b=some o)(n:H b=none):(vN h H).get? b=some o:=
 PySem.W.hideAll_get _ e λhm=>by
  have q:=(List.mem_filter.mp hm).2;simp_all
def Ks (e:(vN h H).get? b=some o):h.get? b=some o/\H b=none:=by
 have M:=PySem.W.of_hideAll _ e;refine⟨M,?_⟩;cases q:H b with
 |none=>rfl
 |some x=>
  simp_all[trk,vX,vN,PySem.W.hideAll_none]
noncomputable def Kt (g h:Heap)(L:Addr):AO:=(List.range h.objs.size).filterMap λa=>if a=L\/(g.get? a).isSome=true then none else (h.get? a).map λo=>(a,o)
def bu (g h:Heap)(L d:Addr):AO:=(Kt g h L).filter λp=>decide (p.1≠d)
structure Mod (K:Frag)(mg:Str->Option Value)(base:Heap):Prop where
 kin:K.In base
 glob:base.Ns mainGlobals mg
 blt:∃mb,base.Ns builtinsNs mb/\∀x:Str,x ≠ "__name__"->mb x=bootBuiltins x
 nolimit:base.NoLimit
 bmain:∃bm ob,mg "__builtins__" = some (.ref bm)/\bm≠builtinsNs/\base.get? bm=some ob/\ob.cls=.type "module"/\ob.dict=some builtinsNs/\ob.data=.plain
structure Cx where
 prog:Program
 w:World
 K:Frag
 mg:Str->Option Value
 base:Heap
 A:Around
 N:List Str
 s₀:Shared
 H₀:Hp
 env:Env
 outer:List Env
 stack:List Env
 ex:List Addr
 fn:Str->Bool
 calm:Bool
 pn:List (Addr×Obj)
 xe:Value->Shared->Prop
noncomputable def lI (l:List Env):List Addr:=l.filterMap (·.frame)
abbrev Cx.fs (X:Cx):List Addr:=lI X.outer
def Kf (sc:Scope)(x:Str):Prop:=sc.names.lookup x=some .local\/sc.names.lookup x=some .cell\/sc.names.lookup x=some .free
def FP (sc:Scope)(x:Str):Prop:=sc.names.lookup x=some .local\/sc.names.lookup x=some .cell
def XV (env:Env)(h:Heap)(m:SV)(x:Str)(u:Value):Prop:=
 (env.kindOf x=some .local/\m x=some u)\/((env.kindOf x=some .cell\/env.kindOf x=some .free)/\∃c,env.cells.lookup x=some c/\h.IsCell c (some u))
abbrev wq {α:Type}(X:Cx):Sem α->(α->Shared->Prop)->(Value->Shared->Prop)->Shared->Prop:=wpAny (model X.prog X.w) X.A
structure Cx.Ok (X:Cx):Prop where
 mod:Mod X.K X.mg X.base
 kind:X.env.scope.kind=.function
 glob:X.env.globals=mainGlobals
 blt:X.env.builtins=builtinsNs
 above:X.s₀.z<=X.env.locals
 inj:∀x y c,X.env.cells.lookup x=some c->X.env.cells.lookup y=some c->x=y
 has:∀x,(X.env.kindOf x=some .cell\/X.env.kindOf x=some .free)->∃c,X.env.cells.lookup x=some c
 cab:∀x c,X.fn x=true->X.env.cells.lookup x=some c->X.s₀.z<=c
 hd:X.calm=true->X.A.handled=none
 frames:X.A.frames=some X.stack
 stk:X.stack=X.outer\/(X.stack=X.env::X.outer/\X.env.frame=some X.env.locals)
 exf:∀b∈X.ex,b≠X.env.locals/\∀x c,X.env.cells.lookup x=some c->c≠b
 bs:∀b o,X.base.get? b=some o->X.s₀.heap.get? b=some o/\X.H₀ b=none
 bsz:X.base.objs.size<=X.s₀.z
 noex:∀b o,X.base.get? b=some o->b∉X.ex
 exfs:∀b∈X.ex,b∉X.fs
 funs:X.s₀.heap.FunFrames X.base X.outer
 frf:∀b∈X.fs,X.H₀ b=none
structure Inv (X:Cx)(aa:List (Addr×Obj))(σ:List (Option V))(H:Hp)(s:Shared):Prop where
 ok:X.Ok
 os:s.os=X.s₀.os
 bare:AllBare s.gens
 base:Un X.fs X.ex X.H₀ H X.s₀.heap s.heap
 loc:∃m,s.heap.Ns X.env.locals m/\∀(i:Nat)(x:Str)(v:V),X.N[i]? = some x->σ[i]? = some (some v)->Kf X.env.scope x->∃u,aA v u/\XV X.env s.heap m x u
 cell:∀x c,X.env.cells.lookup x=some c->∃v,s.heap.IsCell c v
 free:H X.env.locals=none
 freeC:∀x c,X.env.cells.lookup x=some c->H c=none
 pin:∀p∈X.pn++aa,s.heap.get? p.1=some p.2/\H p.1=none/\p.1≠X.env.locals/\p.1∉X.fs/\∀v,p.2.data≠.cell v
 hok:gy X.prog X.w H s.heap
 len:σ.length=X.N.length
section
variable {X:Cx}{aa:AO}{σ:List (Option V)}{H H':Hp}{s:Shared}{h':Heap}
def Cx.Ok.nofr (ok:X.Ok)(e:X.base.get? b=some o):b∉X.fs:=λhb=>by
 have:=(ok.funs.mem hb).1;simp_all
def Inv.bs (I:Inv X aa σ H s):∀b o,X.base.get? b=some o->s.heap.get? b=some o/\H b=none:=λb o e=>
 ⟨I.base.keep b o (I.ok.bs b o e).1 (I.ok.bs b o e).2 (I.ok.nofr e) (I.ok.noex b o e),I.base.free b o (I.ok.bs b o e).1 (I.ok.bs b o e).2 (I.ok.noex b o e)⟩
def Inv.bk (I:Inv X aa σ H s):∀b o,X.base.get? b=some o->s.heap.get? b=some o:=λb o e=>(I.bs b o e).1
def Inv.mod (I:Inv X aa σ H s):Mod X.K X.mg X.base:=I.ok.mod
def Inv.kIn (I:Inv X aa σ H s):X.K.In s.heap:=I.ok.mod.kin.keeps I.bk
def Inv.nolimit (I:Inv X aa σ H s):s.heap.NoLimit:=I.ok.mod.nolimit.keeps I.bk
def Inv.lt (I:Inv X aa σ H s):X.env.locals<s.z:=let ⟨_,hn,_⟩:=I.loc;hn.lt
def Inv.sz (I:Inv X aa σ H s):X.s₀.z<=s.z:=vR I.ok.above (le_of_lt I.lt)
def Inv.nofs (I:Inv X aa σ H s)(h:s.z<=a):a∉X.fs:=λhb=>by
 obtain⟨y,o,M,y⟩:=I.ok.funs.mem hb;exact absurd (vQ (vX M) (vR I.sz h)) (Nat.lt_irrefl _)
def Inv.cne (I:Inv X aa σ H s):∀x c,X.env.cells.lookup x=some c->c≠X.env.locals:=λx c e z=>by
 refine cX λG g=>?_;obtain⟨v,o,U,hd⟩:=I.cell x c e;obtain⟨m,⟨o',es,a,M,O,y⟩,y⟩:=I.loc;simp_all
def Inv.funs (I:Inv X aa σ H s):s.heap.FunFrames X.base X.outer:=by
 have all:∀(l:List _),(∀b∈lI l,b∈X.fs)->X.s₀.heap.FunFrames X.base l->s.heap.FunFrames X.base l:=by
  intro l;induction l with
  |nil=>intro y y;trivial
  |cons env r O=>
   intro hs hl;refine cX λG g=>?_;obtain⟨hk,⟨L,o,hf,hn,U,hd⟩,a⟩:=hl;have M:=hs L (by simp_all[lI]);obtain⟨sl,e⟩:=I.base.slot L o U (I.ok.frf L M) M λz=>I.ok.exfs L z M;apply g;clear g;exact⟨hk,⟨L,_,hf,hn,e,hd⟩,O (λb hb=>hs b (by simp_all[lI])) a⟩
 exact all _ (λy hb=>hb) I.ok.funs
def Inv.stack (I:Inv X aa σ H s):s.heap.FunFrames X.base X.stack:=by
 rcases I.ok.stk with e|⟨e,hf⟩
 .rw[e];exact I.funs
 .rw[e];obtain⟨m,hn,z⟩:=I.loc;exact .cons (by rw[I.ok.kind];decide) hf hn (Heap.get?_none_of_le (vR I.ok.bsz I.ok.above)) I.funs
def Inv.stkSub (I:Inv X aa σ H s):∀b∈lI X.stack,b∈X.env.locals::X.fs:=λb hb=>by
 rcases I.ok.stk with e|⟨e,hf⟩
 .simp_all
 simp_all[lI]
def Inv.stkFree (I:Inv X aa σ H s):∀b∈lI X.stack,H b=none:=λb hb=>by
 rcases vP (I.stkSub b hb)with e|hb
 .rw[e];exact I.free
 .obtain⟨_,o,M,_⟩:=I.ok.funs.mem hb;exact I.base.free b o M (I.ok.frf b hb) λz=>I.ok.exfs b z hb
def Inv.step {g':Array GenState}{t':Nat}{d':Drawn}{ch:List Addr}(I:Inv X aa σ H s)
  (M:∀b∈ch,(b∈X.ex\/X.s₀.z<=b)/\b≠X.env.locals/\(∀x c,X.env.cells.lookup x=some c->c≠b)/\∀p∈X.pn++aa,p.1≠b)
  (keep:∀b o,b≠X.env.locals->b∉X.fs->b∉ch->s.heap.get? b=some o->H b=none->h'.get? b=some o)
  (slot:∀b o,b≠X.env.locals->b∈X.fs->b∉ch->s.heap.get? b=some o->H b=none->∃sl,h'.get? b=some { o with slots:=sl }) (free:∀b o,b∉ch->s.heap.get? b=some o->H b=none->H' b=none)
  (there:∀b o,b∉ch->s.heap.get? b=some o->∃o',h'.get? b=some o')
  (tups:∀b xs,H b=some (.tup xs)->H' b=some (.tup xs)) (frzs:∀b o u,H b=some (.frz o u)->H' b=some (.frz o u)) (tbls:∀b q,H b=some (.tbl q)->H' b=some (.tbl q))
  (ns:∀m,s.heap.Ns X.env.locals m->h'.Ns X.env.locals m) (hok:gy X.prog X.w H' h') (t:AllBare g'):
  Inv X aa σ H' { s with heap:=h',gens:=g',drawn:=d',toks:=t' }:=by
 have g:∀b o,X.s₀.heap.get? b=some o->b≠X.env.locals:=λb o e=>vS (vQ (vX e) I.ok.above);have h:∀b o,X.s₀.heap.get? b=some o->b∉X.ex->b∉ch:=λb o e hx hb=>by
  rcases (M b hb).1 with z|z
  .exact hx z
  .exact absurd (vQ (vX e) z) (Nat.lt_irrefl _)
 have O:∀x c,X.env.cells.lookup x=some c->∀v,s.heap.IsCell c v->h'.IsCell c v:=λx c e v ⟨o,f,hd⟩=>by
  have U:c∉ch:=λz=>(M c z).2.2.1 x c e r4;by_cases hc:c∈X.fs
  .obtain⟨sl,q⟩:=slot c o (I.cne x c e) hc U f (I.freeC x c e);exact⟨_,q,hd⟩
  .exact⟨o,keep c o (I.cne x c e) hc U f (I.freeC x c e),hd⟩
 refine⟨I.ok,I.os,t,⟨λb o e n hb hx=>?_,λb o e n hb hx=>?_,λb o e n hx=>?_,λb o e hx=>?_,λb xs e=>tups b xs (I.base.tups b xs e),λb o xs e=>frzs b o xs (I.base.frzs b o xs e),λb ps e=>?_⟩,?_,λx c e=>?_,?_,λx c e=>?_,λp hp=>?_,hok,I.len⟩
 .exact keep b o (g b o e) hb (h b o e hx) (I.base.keep b o e n hb hx) (I.base.free b o e n hx)
 .obtain⟨sl,a⟩:=I.base.slot b o e n hb hx;obtain⟨y,e2⟩:=slot b _ (g b o e) hb (h b o e hx) a (I.base.free b o e n hx);exact⟨y,e2⟩
 .obtain⟨o',a⟩:=I.base.there b o e hx;exact free b o' (h b o e hx) a (I.base.free b o e n hx)
 .obtain⟨o',a⟩:=I.base.there b o e hx;exact there b o' (h b o e hx) a
 .exact tbls b _ (I.base.tbls b ps e)
 .obtain⟨m,hn,hl⟩:=I.loc;refine⟨m,ns m hn,λi x v a e2 A=>?_⟩;obtain⟨u,r,l⟩:=hl i x v a e2 A;refine⟨u,r,?_⟩;rcases l with l|⟨k,c,e,z⟩
  .exact .inl l
  .exact .inr ⟨k,c,e,O x c e _ z⟩
 .obtain⟨v,z⟩:=I.cell x c e;exact⟨v,O x c e v z⟩
 .refine cX λG K=>?_;obtain⟨m,⟨o,Z,Z,f,Z⟩,Z⟩:=I.loc;apply K;exact free _ o (λz=>(M _ z).2.1 r4) f I.free
 .obtain⟨v,o,f,hd⟩:=I.cell x c e;exact free c o (λz=>(M c z).2.2.1 x c e r4) f (I.freeC x c e)
 .obtain⟨e,n,ne,j,d⟩:=I.pin p hp;have U:p.1∉ch:=λz=>(M p.1 z).2.2.2 p hp r4;exact⟨keep p.1 p.2 ne j U e n,free p.1 p.2 U e n,ne,j,d⟩
def Inv.un(I:Inv X aa σ H s)(u:Un X.fs [] H H' s.heap h')(hok:gy X.prog X.w H' h'):Inv X aa σ H' { s with heap:=h',toks:=t' }:=by
 refine cX λG g=>?_;obtain⟨m,⟨o,es,f,a,r⟩,y⟩:=id I.loc;obtain⟨sl,c⟩:=u.any a I.free X9;apply g;exact I.step (ch:=[]) (λy z=>nomatch z) (λb o y hb y e n=>u.keep b o e n hb X9) (λb o y hb y e n=>u.slot b o e n hb X9) (λb o y e n=>u.free b o e n X9) (λb o y e=>u.there b o e X9) u.tups u.frzs u.tbls (λg hm=>by
  obtain⟨o',O,U,M,d⟩:=hm;rw[a]at M;cases M;exact⟨_,O,U,c,d⟩) hok I.bare
def Inv.call(I:Inv X aa σ H s)(u:Un (lI X.stack) ch H H' s.heap h')(hok:gy X.prog X.w H' h')(f:AllBare g')
  (M:∀b∈ch,(b∈X.ex\/X.s₀.z<=b)/\b≠X.env.locals/\(∀x c,X.env.cells.lookup x=some c->c≠b)/\∀p∈X.pn++aa,p.1≠b):
  Inv X aa σ H' { s with heap:=h',gens:=g',drawn:=d',toks:=t' }:=by
 refine cX λG K=>?_;obtain⟨m,⟨o,es,i,d,r⟩,y⟩:=id I.loc;obtain⟨sl,U⟩:=u.any d I.free λz=>(M _ z).2.1 r4;apply K;exact I.step M (λb o U hb hc e n=>u.keep b o e n (λz=>(vP (I.stkSub b z)).elim U hb) hc) (λb o y y hc e n=>u.any e n hc) (λb o hc e n=>u.free b o e n hc) (λb o hc e=>u.there b o e hc) u.tups u.frzs u.tbls (λj hm=>by
  obtain⟨o',g,a,O,h⟩:=hm;rw[d]at O;cases O;exact⟨_,g,a,U,h⟩) hok f
def Inv.turned(I:Inv X aa σ H s)(k:∀b o,b≠it->s.heap.get? b=some o->h'.get? b=some o)(hn:H it=none)(M:it≠X.env.locals)
  (h1:it∈X.ex\/X.s₀.z<=it) (h2:∀x c,X.env.cells.lookup x=some c->c≠it) (h3:∀p∈X.pn++aa,p.1≠it):Inv X aa σ H { s with heap:=h',toks:=t' }:=by
 refine I.step (ch:=[it]) (λb hb=>?_) (λb o y y hc e y=>k b o (λz=>hc (by simp[z])) e) (λb o y y hc e y=>⟨o.slots,k b o (λz=>hc (by simp[z])) e⟩) (λy y y y n=>n)
  (λb o hc e=>⟨o,k b o (λz=>hc (by simp[z])) e⟩) (λy y e=>e) (λy y y e=>e) (λy y e=>e) (λm hm=>?_) (λb u e=>?_) I.bare
 .have e:=by simpa using hb
  subst e;exact⟨h1,M,h2,h3⟩
 .obtain⟨o,es,O,U,r⟩:=hm;exact⟨o,es,O,k _ o (Ne.symm M) U,r⟩
 .refine(I.hok b u e).stay (λc v hc q=>k c v ?_ q) (λy q=>q) (λy y q=>q) λy y y q=>q;lia
def Inv.tok (I:Inv X aa σ H s)t:Inv X aa σ H { s with toks:=t }:=I.un Un.refl I.hok
def Inv.kept (I:Inv X aa σ H s)(k:∀b u,s.heap.get? b=some u->h'.get? b=some u):Inv X aa σ H { s with heap:=h',toks:=t' }:=I.un (Un.kept k) (I.hok.kept k)
def Inv.laid (I:Inv X aa σ H s)(k:∀b u,s.heap.get? b=some u->h'.get? b=some u)(hp:s.z<=a)(new:aE X.prog X.w (upd H a o) h' a o):
  Inv X aa σ (upd H a o) { s with heap:=h',toks:=t' }:=I.un (Un.laid k hp (I.hok.fresh hp)) (I.hok.laid k hp new)
def Inv.write (I:Inv X aa σ H s)(O:Su (H x))(he:e=x\/H e=some (.own x))(k:∀b u,b≠e->s.heap.get? b=some u->h'.get? b=some u)(M:∃u,h'.get? e=some u)
  (new:aE X.prog X.w (upd H x o) h' x o):Inv X aa σ (upd H x o) { s with heap:=h',toks:=t' }:=I.un (Un.write O he k M) (I.hok.write O he k M new)
def Inv.pins_of (I:Inv X aa σ H s)(h:∀p∈M,s.heap.get? p.1=some p.2/\H p.1=none/\p.1≠X.env.locals/\p.1∉X.fs/\∀v,p.2.data≠.cell v):Inv X M σ H s:=
 ⟨I.ok,I.os,I.bare,I.base,I.loc,I.cell,I.free,I.freeC,λp hp=>(mem_append.mp hp).elim (λz=>I.pin p (List.mem_append_left _ z)) (h p),I.hok,I.len⟩
def oH {N:LS}(M:N.Nodup){i j:Nat}(a:N[i]? = some x)(b:N[j]? = some x):i=j:=by
 obtain⟨h1,O⟩:=vV a;obtain⟨h2,e2⟩:=vV b;exact(List.getElem_inj M).mp (O.trans e2.symm)
def ra {M:Model}{A:Around}{E:QV}{i:Nat}{x:Str}{v:V}{u:Value}{Q:Unit->Shared->Prop}(I:Inv X aa σ H s)(G:X.N.Nodup)(hi:X.N[i]? = some x)(hx:FP X.env.scope x)(r:aA v u)
  (h:∀s',Inv X aa (σ.set i (some v)) H s'->(∃a,Heap.SameBut a s.heap s'.heap/\(a=X.env.locals\/X.env.cells.lookup x=some a))->Q () s') (hf:X.fn x=true\/X.env.scope.names.lookup x=some .local:=by first|exact .inl r4|exact .inr r4|assumption):wpAny M A (storeName X.env x u) Q E s:=by
 obtain⟨m,hn,hl⟩:=id I.loc;have L:(X.env.scope.kind == .class || (X.env.scope.kind == .module && X.env.locals != X.env.globals))=false:=by rw[I.ok.kind];rfl
 have J:i<σ.length:=by rw[I.len];exact(vV hi).1
 have cne:=I.cne;have O:∀ {a:Addr}{h':Heap},(∃o,s.heap.get? a=some o/\H a=none)->Heap.SameBut a s.heap h'->gy X.prog X.w H h':=λ{a h'} ha hs b ob e=>by
  obtain⟨_,_,P⟩:=ha;refine(I.hok b ob e).stay (λc l hc q=>(hs.2 c ?_).trans q) (λ_ q=>q) (λ_ _ q=>q) λ_ _ _ q=>q;lia
 rcases hx with hk|hk
 .refine wpAny_storeName_local hk hn (λh' R hs=>?_) L;obtain⟨S,_,_,T,_⟩:=id hn;refine h _ ⟨I.ok,I.os,I.bare,⟨λb o e n hb hx=>?_,λb o e n hb hx=>?_,I.base.free,λb o e hx=>?_,I.base.tups,I.base.frzs,I.base.tbls⟩,⟨_,R,λj y t U e2 B=>?_⟩,λy c e=>?_,I.free,I.freeC,λp hp=>?_,O ⟨S,T,I.free⟩ hs,by simpa using I.len⟩ ⟨_,hs,.inl r4⟩
  .exact(hs.2 b (vS (vQ (vX e) I.ok.above))).trans (I.base.keep b o e n hb hx)
  .obtain⟨sl,U⟩:=I.base.slot b o e n hb hx;exact⟨sl,(hs.2 b (vS (vQ (vX e) I.ok.above))).trans U⟩
  .obtain⟨o',U⟩:=I.base.there b o e hx;exact⟨o',(hs.2 b (vS (vQ (vX e) I.ok.above))).trans U⟩
  .by_cases hj:j=i
   .subst hj;rw[hi]at U;cases U;rw[getElem?_set_self J]at e2;cases e2
    exact⟨u,r,.inl ⟨hk,X9⟩⟩
   .rw[vC (Ne.symm hj)]at e2;obtain⟨u',C,q⟩:=hl j y t U e2 B;refine⟨u',C,?_⟩;rcases q with⟨k,e⟩|⟨k,c,e,z⟩
    .refine .inl ⟨k,?_⟩;have:y≠x:=λe=>hj (oH G U (e ▸ hi));simp[this,e]
    .exact .inr ⟨k,c,e,z.sameBut hs (cne y c e)⟩
  .obtain⟨l,z⟩:=I.cell y c e;exact⟨l,z.sameBut hs (cne y c e)⟩
  .obtain⟨e,n,ne,D,d⟩:=I.pin p hp;exact⟨(hs.2 p.1 ne).trans e,n,ne,D,d⟩
 .have F:X.fn x=true:=by
   simp_all<;>lia
  obtain⟨c,hc⟩:=I.ok.has x (.inl hk);obtain⟨l,z⟩:=I.cell x c hc;refine wpAny_storeName_cell I.ok.kind hk hc z (λh' K hs=>?_);obtain⟨oc,W,Y⟩:=id z;refine h { s with heap:=h' } ⟨I.ok,I.os,I.bare,⟨λb o e n hb hx=>?_,λb o e n hb hx=>?_,I.base.free,λb o e hx=>?_,I.base.tups,I.base.frzs,I.base.tbls⟩,⟨m,hn.sameBut hs (Ne.symm (cne x c hc)),λj y t U e2 B=>?_⟩,λy g e=>?_,I.free,I.freeC,λp hp=>?_,O ⟨oc,W,I.freeC x c hc⟩ hs,by simpa using I.len⟩ ⟨c,hs,.inr hc⟩
  .exact(hs.2 b (vS (vQ (vX e) (I.ok.cab x c F hc)))).trans (I.base.keep b o e n hb hx)
  .obtain⟨sl,U⟩:=I.base.slot b o e n hb hx;exact⟨sl,(hs.2 b (vS (vQ (vX e) (I.ok.cab x c F hc)))).trans U⟩
  .obtain⟨o',U⟩:=I.base.there b o e hx;exact⟨o',(hs.2 b (vS (vQ (vX e) (I.ok.cab x c F hc)))).trans U⟩
  .by_cases hj:j=i
   .subst hj;rw[hi]at U;cases U;rw[getElem?_set_self J]at e2;cases e2
    exact⟨u,r,.inr ⟨.inl hk,c,hc,K⟩⟩
   .rw[vC (Ne.symm hj)]at e2;obtain⟨u',C,q⟩:=hl j y t U e2 B;refine⟨u',C,?_⟩;rcases q with q|⟨k,g,e,Z⟩
    .exact .inl q
    .refine .inr ⟨k,g,e,Z.sameBut hs ?_⟩;rintro rfl;exact hj (oH G U (I.ok.inj _ _ _ e hc ▸ hi))
  .by_cases f:g=c
   .subst f;exact⟨_,K⟩
   .obtain⟨w2,z2⟩:=I.cell y g e;exact⟨w2,z2.sameBut hs f⟩
  .obtain⟨e,n,ne,D,d⟩:=I.pin p hp;refine⟨(hs.2 p.1 ?_).trans e,n,ne,D,d⟩;grind
def oJ{A:Around}{E:QV}{i:Nat}{x:Str}{v:V}{u:Value}{Q:Unit->Shared->Prop}(I:Inv X aa σ H s)(O:X.N.Nodup)(hi:X.N[i]? = some x)(hx:FP X.env.scope x)(r:aA v u)
  (h:∀s',Inv X aa (σ.set i (some v)) H s'->Q () s') (hf:X.fn x=true\/X.env.scope.names.lookup x=some .local:=by first|exact .inl r4|exact .inr r4|assumption):wpAny M A (storeName X.env x u) Q E s:=
 ra I O hi hx r (λs' U z=>h s' U) hf
def Inv.call' (I:Inv X aa σ H s)(O:s'.os=s.os)(u:Un (lI X.stack) ch H H' s.heap s'.heap)(hok:gy X.prog X.w H' s'.heap)(U:AllBare s'.gens)
  (M:∀b∈ch,(b∈X.ex\/X.s₀.z<=b)/\b≠X.env.locals/\(∀x c,X.env.cells.lookup x=some c->c≠b)/\∀p∈X.pn++aa,p.1≠b):Inv X aa σ H' s':=by
 obtain⟨h',g',d',t',o'⟩:=s';subst O;exact I.call u hok U M
end
abbrev XK:=Value->Option Addr->Hp->Prop
abbrev St:=List (Option V)
abbrev VK:=V->Hp->Prop
abbrev TE:=St->Hp->VK->Prop
abbrev TT:=St->Hp->(Bool->Hp->Prop)->Prop
abbrev TA:=St->Hp->(List V->Hp->Prop)->Prop
structure Ends where
 nx:St->Hp->Prop
 rt:VK
 bk:St->Hp->Prop:=λ_ _=>False
 ct:St->Hp->Prop:=λ_ _=>False
abbrev TS:=Ends->St->Hp->Prop
inductive EP (X:Cx)(aa:AO)(σ:St)(Q:VK)(u:Value)(s':Shared):Prop|mk v H':Inv X aa σ H' s'->aA v u->Q v H'->EP X aa σ Q u s'
inductive TP (X:Cx)(aa:AO)(σ:St)(Q:Bool->Hp->Prop)(b:Bool)(s':Shared):Prop|mk H':Inv X aa σ H' s'->Q b H'->TP X aa σ Q b s'
inductive AP (X:Cx)(aa:AO)(σ:St)(Q:List V->Hp->Prop)(us:LU)(s':Shared):Prop|mk vs H':Inv X aa σ H' s'->aD vs us->Q vs H'->AP X aa σ Q us s'
def SP (X:Cx)(aa:AO)(D:Ends)(f:Flow)(s':Shared):Prop:=
 match f with
 |.next=>∃M H',Inv X aa M H' s'/\D.nx M H'
 |.brk=>∃M H',Inv X aa M H' s'/\D.bk M H'
 |.cont=>∃M H',Inv X aa M H' s'/\D.ct M H'
 |.ret u=>∃v M H',Inv X aa M H' s'/\aA v u/\D.rt v H'
def PE (X:Cx)(e:Expr)(t:TE):Prop:=
 ∀(aa:AO)(s:Shared)(σ:St)(H:Hp)(Q:VK),Inv X aa σ H s->t σ H Q->wq X (eval e X.env) (EP X aa σ Q) X.xe s
def PT (X:Cx)(e:Expr)(t:TT):Prop:=
 ∀(aa:AO)(s:Shared)(σ:St)(H:Hp)(Q:Bool->Hp->Prop),Inv X aa σ H s->t σ H Q->wq X (isTrue e X.env (eval e X.env)) (TP X aa σ Q) X.xe s
def PW (X:Cx)(e:Expr)(t:TT):Prop:=
 ∀(M:Sem Value)(aa:AO)(s:Shared)(σ:St)(H:Hp)(Q:Bool->Hp->Prop),Inv X aa σ H s->t σ H Q->wq X (isTrue e X.env M) (TP X aa σ Q) X.xe s
def PW.pt (h:PW X e t):PT X e t:=h _
def PA (X:Cx)(es:QD)(t:TA):Prop:=
 ∀(M:Pos)(aa:AO)(s:Shared)(σ:St)(H:Hp)(Q:List V->Hp->Prop),Inv X aa σ H s->t σ H Q->wq X (spliced (backTo M (starEach es X.env))) (AP X aa σ Q) X.xe s
def PS (X:Cx)(st:Stmt)(t:TS):Prop:=
 ∀(aa:AO)(s:Shared)(σ:St)(H:Hp)(D:Ends),Inv X aa σ H s->t D σ H->wq X (exec st X.env) (SP X aa D) X.xe s
def kj (X:Cx)(st:List Stmt)(t:TS):Prop:=
 ∀(aa:AO)(s:Shared)(σ:St)(H:Hp)(D:Ends),Inv X aa σ H s->t D σ H->wq X (execs st X.env) (SP X aa D) X.xe s
def aV {α:Type}{t:Sem α}{Q O:α->Shared->Prop}(h:wpAny M A t Q E s)(U:∀a s,Q a s->O a s):wpAny M A t O E s:=wpAny_mono h U λz z x=>x
section
variable {X:Cx}
inductive AC (i:Nat)(σ:St)(H:Hp)(Q:VK):Prop|mk v:σ[i]? = some (some v)->Q v H->AC i σ H Q
def kq (i:Nat):TE:=λσ H Q=>AC i σ H Q
def tC (v:V):TE:=λz H Q=>Q v H
def aF (U:X.N[i]? = some x)(a:Kf X.env.scope x)(hd:autoParam (aS x) Z9._auto_1)(O:autoParam (km x) Z9._auto_1):PE X (.Name x pos) (kq i):=by
 intro aa s σ H Q I h;refine cX λG g=>?_;obtain⟨v,e,h⟩:=h;obtain⟨m,hn,hl⟩:=I.loc;obtain⟨u,r,l⟩:=hl i x v U e a;apply g;rcases l with⟨hk,hm⟩|⟨hk,c,hc,M⟩
 .exact wpAny_Name (wpAny_loadName_local I.ok.kind hk hn hm ⟨v,H,I,r,h⟩) hd
 .rcases hk with hk|hk
  .exact wpAny_Name (wpAny_loadName_cell I.ok.kind hk hc M ⟨v,H,I,r,h⟩) hd
  .exact wpAny_Name (wpAny_loadName_free I.ok.kind hk hc M ⟨v,H,I,r,h⟩ O) hd
def FQ:PE X (.Constant (.int i) j M) (tC (.int i)):=λz z z H z I h=>wpAny_Constant_int ⟨.int i,H,I.tok _,⟨_,r4⟩,h⟩
def Sv:PE X (.Constant (.bool b) j M) (tC (.bl b)):=λz z z H z I h=>Constant_bool ⟨.bl b,H,I,r4,h⟩
def yF:PE X (.Constant .none j M) (tC .non):=λz z z H z I h=>Constant_none ⟨.non,H,I,r4,h⟩
def t4:PE X (.Constant (.str x) j M) (tC (.str x)):=λz z z H z I h=>Calls.Constant_str ⟨.str x,H,I.tok _,⟨_,r4⟩,h⟩
def Gl (X:Cx)(x:Str):Prop:=X.env.kindOf x=some .globalImplicit
def fq {E:QV}{aa:AO}{s:Shared}{σ:St}{H:Hp}{x:Str}{u:Value}{M:Pos}{Q:QV}(I:Inv X aa σ H s)(O:Gl X x)(hm:X.mg x=some u)(h:Q u s)
  (hd:autoParam (aS x) Z9._auto_1):wq X (eval (.Name x M) X.env) Q E s:=
 Calls.Name_function_global I.ok.kind O (Calls.loadGlobal_global (by rw[I.ok.glob];exact I.mod.glob.keeps I.bk) hm h) hd
def dn {E:QV}{aa:AO}{s:Shared}{σ:St}{H:Hp}{x:Str}{u:Value}{M:Pos}{Q:QV}(I:Inv X aa σ H s)(O:Gl X x)(hm:X.mg x=none)(U:bootBuiltins x=some u)(h:Q u s)
  (hn:autoParam (x ≠ "__name__") Z9._auto_1) (hd:autoParam (aS x) Z9._auto_1):wq X (eval (.Name x M) X.env) Q E s:=by
 obtain⟨mb,h1,h2⟩:=I.mod.blt;exact Calls.Name_function_global I.ok.kind O (Calls.loadGlobal_builtin (by rw[I.ok.glob];exact I.mod.glob.keeps I.bk) hm (by rw[I.ok.blt];exact h1.keeps I.bk) ((h2 x hn).trans U) h) hd
def cO (M:Gl X x)(hm:X.mg x=some u)(r:aA v u)(hd:autoParam (aS x) Z9._auto_1):PE X (.Name x O) (tC v):=
 λz z z H z I h=>fq I M hm ⟨v,H,I,r,h⟩ hd
def t6 (M:Gl X x)(hm:X.mg x=none)(O:bootBuiltins x=some u)(r:aA v u)(hn:autoParam (x ≠ "__name__") Z9._auto_1)(hd:autoParam (aS x) Z9._auto_1):PE X (.Name x U) (tC v):=
 λz z z H z I h=>dn I M hm O ⟨v,H,I,r,h⟩ hn hd
variable {a b:Expr}{ta tb:TE}{pos:Pos}
def PC (X:Cx)(op:CmpOp)(a b:Expr)(t:TE):Prop:=
 ∀(aa:AO)(s:Shared)(σ:St)(H:Hp)(Q:VK),Inv X aa σ H s->t σ H Q ->
  wq X (eval a X.env) (λv M=>wq X (eval b X.env) (λu O=>wq X (compareOp op v u) (EP X aa σ Q) X.xe O) X.xe M) X.xe s
def XW (ta:TE):TE:=λσ H Q=>ta σ H λx M=>Q (.bl (decide (x=.non))) M
def aA.none_iff (r:aA x v):(v == Value.none)=decide (x=.non):=by
 cases x with
 |non=>cases r;rfl
 |bl _=>cases r;rfl
 |int _=>obtain⟨t,rfl⟩:=r;rfl
 |str _=>obtain⟨t,rfl⟩:=r;rfl
 |byt _=>obtain⟨t,rfl⟩:=r;rfl
 |flt _=>obtain⟨t,rfl⟩:=r;rfl
 |ref _=>cases r;rfl
 |ty _=>cases r;rfl
def OO(ha:PE X a ta):PC X .Is a (.Constant .none j nJ) (XW ta):=by
 intro aa s σ H Q I h;exact aV (ha _ s σ H _ I h) λv s1 ⟨x,M,O,U,c⟩=>Constant_none (is_none_gen ⟨.bl _,M,O,by rw[U.none_iff];rfl,c⟩)
def tB (t:TE):TT:=λσ H Q=>t σ H λx M=>∃c,x=.bl c/\Q c M
def OP (h:PC X op a b t)(h1:autoParam (behindInMarks op b=false) I9._auto_1):PE X (.Compare a [op] [b] pos) t:=λaa s σ H Q I hw=>wpAny_Compare1 (h _ s σ H Q I hw) h1
def FR(h:PC X op a b t)(h1:autoParam (behindInMarks op b=false) I9._auto_1):PT X (.Compare a [op] [b] pos) (tB t):=by
 intro aa s σ H Q I hw;refine wpAny_isTrue_Compare1 (aV (h _ s σ H _ I hw) λv s1 h1=>aV h1 λu s2 h2=>aV h2 λc f ⟨x,M,O,U,e⟩=>?_) h1;obtain⟨d,rfl,q⟩:=e;cases U
 exact wpAny_truthy_bool ⟨M,O,q⟩
def OQ(h:PE X e t)(he:∀M,isTrue e X.env M=(do let v <-M;standAt e.pos;holding [v] (truthy v)):=by intro z;rfl):PT X e (tB t):=by
 intro aa s σ H Q I hw;refine isTrue_plain (aV (h _ s σ H _ I hw) λv s1 ⟨x,O,U,c,f⟩=>?_) (he _);obtain⟨d,rfl,q⟩:=f;cases c
 exact wpAny_truthy_bool ⟨O,U,q⟩
variable {tA X0:TT}{bu:QD}
def Sw (t u:TT):TT:=λσ H Q=>t σ H λc M=>if c=true then u σ M Q else Q false M
def tOr (t u:TT):TT:=λσ H Q=>t σ H λc M=>if c=true then Q true M else u σ M Q
def Sx (t:TT):TT:=λσ H Q=>t σ H λc M=>Q (!c) M
def Ku (ha:PT X a tA):PW X (.BoolOp .And [a] pos) tA:=by
 intro M aa s σ H Q I h;refine isTrue_and (aV (ha _ s σ H Q I h) λc s1 e=>?_);grind[isTrue_and_nil]
def OR (ha:PT X a tA):PW X (.BoolOp .Or [a] pos) tA:=by
 intro M aa s σ H Q I h;refine isTrue_or (aV (ha _ s σ H Q I h) λc s1 e=>?_);grind[isTrue_or_nil]
def OS (ha:PT X a tA)(hb:PW X (.BoolOp .And (b::bu) pos) X0):PW X (.BoolOp .And (a::b::bu) pos) (Sw tA X0):=by
 intro d aa s σ H Q I h;refine isTrue_and (aV (ha _ s σ H _ I h) λc s1 ⟨M,O,U⟩=>?_);cases c with
 |true=>exact hb d _ s1 σ M Q O U
 |false=>exact⟨M,O,U⟩
def Sy (ha:PT X a tA)(hb:PW X (.BoolOp .Or (b::bu) pos) X0):PW X (.BoolOp .Or (a::b::bu) pos) (tOr tA X0):=by
 intro d aa s σ H Q I h;refine isTrue_or (aV (ha _ s σ H _ I h) λc s1 ⟨M,O,U⟩=>?_);cases c with
 |true=>exact⟨M,O,U⟩
 |false=>exact hb d _ s1 σ M Q O U
def OT (ha:PT X a tA):PT X (.UnaryOp .Not a pos) (Sx tA):=λaa s σ H Q I h=>isTrue_not (aV (ha _ s σ H _ I h) λc s1⟨M,O,U⟩=>⟨M,O,U⟩)
def Sz (ta tb:TE):TE:=λσ H Q=>ta σ H λx M=>∃c,x=.bl c/\if c=true then tb σ M Q else Q (.bl false) M
def XX (ta tb:TE):TE:=λσ H Q=>ta σ H λx M=>∃c,x=.bl c/\if c=true then Q (.bl true) M else tb σ M Q
def SA (ta:TE):TE:=λσ H Q=>ta σ H λx M=>∃c,x=.bl c/\Q (.bl (!c)) M
def OU(h:PE X a t):PE X (.BoolOp op [a] pos) t:=λaa s σ H Q I hw=>BoolOp_one (h _ s σ H Q I hw)
def OV (ha:PE X a ta)(hb:PE X (.BoolOp .And (b::bu) pos) tb):PE X (.BoolOp .And (a::b::bu) pos) (Sz ta tb):=by
 intro aa s σ H Q I h;refine BoolOp_and (aV (ha _ s σ H _ I h) λv s1 ⟨x,O,U,d,M⟩=>?_);obtain⟨c,rfl,M⟩:=M;cases d
 refine wpAny_truthy_bool ?_;cases c with
 |true=>exact hb _ s1 σ O Q U M
 |false=>exact⟨.bl _,O,U,r4,M⟩
def SD (ha:PE X a ta)(hb:PE X (.BoolOp .Or (b::bu) pos) tb):PE X (.BoolOp .Or (a::b::bu) pos) (XX ta tb):=by
 intro aa s σ H Q I h;refine BoolOp_or (aV (ha _ s σ H _ I h) λv s1 ⟨x,O,U,d,M⟩=>?_);obtain⟨c,rfl,M⟩:=M;cases d
 refine wpAny_truthy_bool ?_;cases c with
 |false=>exact hb _ s1 σ O Q U M
 |true=>exact⟨.bl _,O,U,r4,M⟩
def OW (ha:PE X a ta):PE X (.UnaryOp .Not a pos) (SA ta):=by
 intro aa s σ H Q I h;refine UnaryOp_ (aV (ha _ s σ H _ I h) λv s1 ⟨x,O,U,d,M⟩=>?_);obtain⟨c,rfl,M⟩:=M;cases d
 exact not_of (wpAny_truthy_bool ⟨.bl _,O,U,r4,M⟩)
def tIf (t:TT)(ta tb:TE):TE:=λσ H Q=>t σ H λc M=>if c=true then ta σ M Q else tb σ M Q
def FU(hc:PT X c tA)(ha:PE X a ta)(hb:PE X b tb):PE X (.IfExp c a b pos) (tIf tA ta tb):=by
 intro aa s σ H Q I h;refine wpAny_IfExp (aV (hc _ s σ H _ I h) λd s1 ⟨M,O,U⟩=>?_);cases d with
 |true=>exact ha _ s1 σ M Q O U
 |false=>exact hb _ s1 σ M Q O U
end
def dj (K:Frag)(H:Hp)(a:Addr)(xs:List V):Prop:=
 Rd H a (.lst xs) \/
  ∃(o:Obj)(its:AV)(n:Nat),K.lookup a=some o/\o.cls=.type "list"/\o.dict=none/\o.data=.seq its n/\its.size<=sizeLine/\aD xs its.toList
def dM (K:Frag)(H:Hp)(a:Addr)(xs:List V):Prop:=
 Rd H a (.tup xs) \/
  ∃(o:Obj)(its:AV)(n:Nat),K.lookup a=some o/\o.cls=.type "tuple"/\o.data=.seq its n/\its.size<=sizeLine/\aD xs its.toList
noncomputable def XY:Value->Option V
 |.none=>some .non
 |.bool b=>some (.bl b)
 |.int i _=>some (.int i)
 |.str x _=>some (.str x)
 |.bytes b _=>some (.byt b)
 |.float b _=>some (.flt b)
 |.ref a=>some (.ref a)
 |.type n=>some (.ty n)
 |_=>none
def aA.abs (r:aA x u):XY u=some x:=by
 cases x with
 |non=>cases r;rfl
 |bl _=>cases r;rfl
 |int _=>obtain⟨t,rfl⟩:=r;rfl
 |str _=>obtain⟨t,rfl⟩:=r;rfl
 |byt _=>obtain⟨t,rfl⟩:=r;rfl
 |flt _=>obtain⟨t,rfl⟩:=r;rfl
 |ref _=>cases r;rfl
 |ty _=>cases r;rfl
def aA.inj (r:aA x u)(q:aA y u):x=y:=vK (r.abs.symm.trans q.abs)
theorem aD.inj {xs ys:List V}{us:LU}(h:aD xs us)(t':aD ys us):xs=ys:=by
 induction h generalizing ys with
 |nil=>cases t';rfl
 |cons r _ i=>cases t' with|cons M t'=>rw[r.inj M,i t']
section
variable {X:Cx}{aa:AO}{σ:St}{H:Hp}{s:Shared}{a:Addr}{xs ys:List V}
def dj.of {K:Frag}(h:H a=some (.lst xs)):dj K H a xs:=.inl (.inl h)
def dM.of {K:Frag}(h:H a=some (.tup xs)):dM K H a xs:=.inl (.inl h)
def Inv.list (I:Inv X aa σ H s)(h:dj X.K H a xs):∃its:LU,aD xs its/\PlainL s.heap a its.toArray/\xs.length<=sizeLine:=by
 rcases h with h|⟨o,its,n,hk,hc,hd,hs,hz,r⟩
 .obtain⟨z,its,n,r,e⟩:=h.ok I.hok;exact⟨its,r,⟨_,n,e,r4,r4,r4⟩,z⟩
 .refine⟨its.toList,r,⟨o,n,I.kIn a o hk,hc,hd,by simpa using hs⟩,?_⟩;have e:=r.length;simp_all
def Inv.lisE {G:Prop}(I:Inv X aa σ H s)(h:dj X.K H a xs)(k:∀its:LU,aD xs its->PlainL s.heap a its.toArray->xs.length<=sizeLine->G):G:=let⟨i,d,p,z⟩:=I.list h;k i d p z
def Inv.tuple (I:Inv X aa σ H s)(h:dM X.K H a xs):∃its:LU,aD xs its/\IsTup s.heap a its.toArray/\xs.length<=sizeLine:=by
 rcases h with h|⟨o,its,n,hk,hc,hs,hz,r⟩
 .obtain⟨z,its,r,p⟩:=h.ok I.hok;exact⟨its,r,p,z⟩
 .refine⟨its.toList,r,⟨o,I.kIn a o hk,hc,n,by simpa using hs⟩,?_⟩;have e:=r.length;simp_all
def Inv.tupE {G:Prop}(I:Inv X aa σ H s)(h:dM X.K H a xs)(k:∀its:LU,aD xs its->IsTup s.heap a its.toArray->xs.length<=sizeLine->G):G:=let⟨i,d,p,z⟩:=I.tuple h;k i d p z
def Inv.list_inj (I:Inv X aa σ H s)(h:dj X.K H a xs)(h':dj X.K H a ys):xs=ys:=by
 refine cX λG g=>?_;obtain⟨its,r,⟨o,n,e,z,z,d⟩,z⟩:=I.list h;obtain⟨its',M,⟨o',U,O,z,z,d'⟩,z⟩:=I.list h';apply g;have:its=its':=by simp_all
 subst this;exact r.inj M
def Inv.tuple_inj (I:Inv X aa σ H s)(h:dM X.K H a xs)(h':dM X.K H a ys):xs=ys:=by
 refine cX λG g=>?_;obtain⟨its,r,⟨o,e,z,n,d⟩,z⟩:=I.tuple h;obtain⟨its',M,⟨o',O,z,U,d'⟩,z⟩:=I.tuple h';apply g;have:its=its':=by simp_all
 subst this;exact r.inj M
end
noncomputable abbrev Cx.wish (X:Cx)(E:QV):Cx:={ X with xe:=E }
noncomputable abbrev Cx.nox (X:Cx):Cx:=X.wish λz z=>False
def Cx.Ok.wish {X:Cx}(ok:X.Ok)(E:QV):(X.wish E).Ok:=
 ⟨ok.mod,ok.kind,ok.glob,ok.blt,ok.above,ok.inj,ok.has,ok.cab,ok.hd,ok.frames,ok.stk,ok.exf,ok.bs,ok.bsz,ok.noex,ok.exfs,ok.funs,ok.frf⟩
def Cx.Ok.unwish {X:Cx}{E:QV}(ok:(X.wish E).Ok):X.Ok:=
 ⟨ok.mod,ok.kind,ok.glob,ok.blt,ok.above,ok.inj,ok.has,ok.cab,ok.hd,ok.frames,ok.stk,ok.exf,ok.bs,ok.bsz,ok.noex,ok.exfs,ok.funs,ok.frf⟩
section
variable {X:Cx}{aa:AO}{σ:St}{H:Hp}{s:Shared}{E:QV}
def Inv.wish (I:Inv X aa σ H s)(E:QV):Inv (X.wish E) aa σ H s:=⟨I.ok.wish E,I.os,I.bare,I.base,I.loc,I.cell,I.free,I.freeC,I.pin,I.hok,I.len⟩
def Inv.unwish (I:Inv (X.wish E) aa σ H s):Inv X aa σ H s:=⟨I.ok.unwish,I.os,I.bare,I.base,I.loc,I.cell,I.free,I.freeC,I.pin,I.hok,I.len⟩
def SP.unwish (h:SP (X.wish E) aa D f s'):SP X aa D f s':=by
 cases f with
 |next=>obtain⟨M,H',I,q⟩:=h;exact⟨M,H',I.unwish,q⟩
 |brk=>obtain⟨M,H',I,q⟩:=h;exact⟨M,H',I.unwish,q⟩
 |cont=>obtain⟨M,H',I,q⟩:=h;exact⟨M,H',I.unwish,q⟩
 |ret u=>obtain⟨v,M,H',I,r,q⟩:=h;exact⟨v,M,H',I.unwish,r,q⟩
def PE.nox (h:PE X.nox e t):PE X e t:=λaa s σ H Q I hw=>
 wpAny_mono (h _ s σ H Q (I.wish _) hw) (λz z ⟨v,H',M,r,q⟩=>⟨v,H',M.unwish,r,q⟩) λz z=>False.elim
def kj.nox {st:List Stmt}(h:kj X.nox st t):kj X st t:=λaa s σ H D I hw=>
 wpAny_mono (h _ s σ H D (I.wish _) hw) (λz z q=>q.unwish) λz z=>False.elim
end
section
variable {X:Cx}{st:Stmt}{bu:List Stmt}{t u:TS}{e:Expr}{te:TE}{pos:Pos}
def vO:TS:=λD σ H=>D.nx σ H
def FV (t u:TS):TS:=λD σ H=>t { D with nx:=u D } σ H
def c9:kj X [] vO:=λz z σ H z I h=>wpAny_execs_nil ⟨σ,H,I,h⟩
def aq (h1:PS X st t)(h2:kj X bu u):kj X (st::bu) (FV t u):=by
 intro aa s σ H D I h;refine wpAny_execs_cons (aV (h1 _ s σ H _ I h) λf s1 q=>?_);cases f with
 |next=>
  obtain⟨M,H',O,q⟩:=q;exact h2 _ s1 _ H' D O q
 |ret v=>exact q
 |brk=>exact q
 |cont=>exact q
def bf (h1:PS X st t):kj X [st] t:=by
 intro aa s σ H D I h;refine wpAny_execs_cons (aV (h1 _ s σ H D I h) λf s1 q=>?_);cases f with
 |next=>exact wpAny_execs_nil q
 |ret v=>exact q
 |brk=>exact q
 |cont=>exact q
def SE:TS:=λD σ H=>D.ct σ H
def wa:PS X (.Continue pos) SE:=λz z σ H z I h=>wpAny_Continue ⟨σ,H,I,h⟩
def Inv.quiet (I:Inv X aa σ H s):interactive X.env=false:=by simp[interactive,I.ok.kind]
def Nz (te:TE):TS:=λD σ H=>te σ H λz M=>D.nx σ M
def ft (he:PE X e te)(hs:autoParam (swapsWith e none pos.line X.env=pure false) I9._auto_1):PS X (.Expr e pos) (Nz te):=λaa s σ H D I h=>wpAny_Expr_any (aV (he _ s σ H _ I h) λv s1 ⟨x,M,O,a,U⟩=>⟨σ,M,O,U⟩) I.quiet hs
def OX (te:TE):TS:=λD σ H=>te σ H D.rt
def fH (he:PE X e te):PS X (.Return (some e) pos) (OX te):=λaa s σ H D I h=>wpAny_Return_some (aV (he _ s σ H _ I h) λv s1 ⟨x,M,O,U,a⟩=>⟨x,σ,M,O,U,a⟩)
def DZ (c:TT)(t u:TS):TS:=λD σ H=>c σ H λb M=>if b=true then t D σ M else u D σ M
def fX(hc:PT X c M)(ha:kj X a t)(hb:kj X b u):PS X (.If c a b pos) (DZ M t u):=by
 intro aa s σ H D I h;refine wpAny_If (aV (hc _ s σ H _ I h) λd s1 ⟨O,U,f⟩=>?_);cases d with
 |true=>exact ha _ s1 σ O D U f
 |false=>exact hb _ s1 σ O D U f
def OY:TS:=λz z z=>False
def kr:PS X st OY:=λz z z z z z h=>h.elim
end
abbrev TG:=V->St->Hp->(St->Hp->Prop)->Prop
abbrev N6:=List V->St->Hp->(St->Hp->Prop)->Prop
def PG (X:Cx)(M:Expr)(t:TG):Prop:=
 ∀(aa:AO)(s:Shared)(σ:St)(H:Hp)(v:V)(u:Value)(Q:St->Hp->Prop),Inv X aa σ H s->aA v u->t v σ H Q ->
  wq X (assign M X.env u) (λz s'=>∃O H',Inv X aa O H' s'/\Q O H') X.xe s
def SG (X:Cx)(ts:QD)(t:N6):Prop:=
 ∀(aa:AO)(s:Shared)(σ:St)(H:Hp)(vs:List V)(us:LU)(Q:St->Hp->Prop),Inv X aa σ H s->aD vs us->t vs σ H Q ->
  wq X (assignInOrder ((assignEach ts X.env).map (·.2)) us) (λz s'=>∃M H',Inv X aa M H' s'/\Q M H') X.xe s
section
variable {X:Cx}{pos:Pos}
def fu (i:Nat):TG:=λv σ H Q=>Q (σ.set i (some v)) H
def A8 (M:X.N.Nodup)(hi:X.N[i]? = some x)(hx:FP X.env.scope x)(hf:X.fn x=true\/X.env.scope.names.lookup x=some .local:=by first|exact .inl r4|exact .inr r4|assumption):PG X (.Name x pos) (fu i):=λaa s σ H v u Q I r h=>wpAny_assign_Name (oJ I M hi hx r (λs' O=>⟨_,H,O,h⟩) hf)
def SH:N6:=λvs σ H Q=>vs=[]/\Q σ H
def NA (t:TG)(u:N6):N6:=λvs σ H Q=>∃v r,vs=v::r/\t v σ H λM H'=>u r M H' Q
def kx:SG X [] SH:=by
 intro aa s σ H vs us Q I r h;obtain⟨e,h⟩:=h;exact assignInOrder_nil ⟨σ,H,I,h⟩
def cK(h1:PG X e t)(h2:SG X es u)
  (hs:autoParam ((assignEach (e::es) X.env).map (·.2)=assign e X.env::(assignEach es X.env).map (·.2)) I9._auto_1):SG X (e::es) (NA t u):=by
 intro aa s σ H vs us Q I r h;obtain⟨v,d,M,h⟩:=h;subst M;cases r with
 |cons r O=>
  rw[hs];exact assignInOrder_cons (aV (h1 _ s σ H _ _ _ I r h) λz s1 ⟨U,a,b,c⟩=>h2 _ s1 _ a _ _ Q b O c)
inductive BT (K:Frag)(n:Nat)(t:N6)(v:V)(σ:St)(H:Hp)(Q:St->Hp->Prop):Prop|mk a xs:v=.ref a->dM K H a xs->xs.length=n->t xs σ H Q->BT K n t v σ H Q
def FW (K:Frag)(n:Nat)(t:N6):TG:=λv σ H Q=>BT K n t v σ H Q
def t7 (hc:X.calm=true)(h:SG X es t)
  (hn:autoParam ((assignEach es X.env).length=n) I9._auto_1) (M:autoParam ((assignEach es X.env).findIdx? (·.1)=none) I9._auto_1):PG X (.Tuple es k pos) (FW X.K n t):=by
 intro aa s σ H v u Q I r hw;obtain⟨a,xs,U,hq,hl,hw⟩:=hw;subst U;cases r
 refine I.tupE hq λits O c hz=>assign_Tuple_tuple (I.ok.hd hc) c (by simp[hn,<-hl,O.length]) M λh' hx=>?_;exact h _ _ σ H xs _ Q (I.kept (t':=s.toks) λb o e=>hx b o (vS (vX e)) e) (by simpa using O) hw
def wb (M:TE)(g:TG):TS:=λD σ H=>M σ H λx O=>g x σ O D.nx
def OZ(he:PE X e M)(O:PG X tg g)(hs:autoParam (swapsWithSole [tg] e pos.line X.env=pure false) I9._auto_1)(hw:autoParam (swappedStores [tg] e X.env=pure none) I9._auto_1)
  (h1:autoParam ((assignEach [tg] X.env).map (·.2)=[assign tg X.env]) I9._auto_1):PS X (.Assign [tg] e pos) (wb M g):=by
 intro aa s σ H D I h;refine wpAny_Assign_stores (aV (he _ s σ H _ I h) λv s1 ⟨x,U,a,b,c⟩=>?_) hs hw;rw[h1];exact aV (O _ s1 σ U x v _ a b c) λz s2 q=>q
def cm(U:X.N.Nodup)(hi:X.N[i]? = some x)(hx:FP X.env.scope x)(he:PE X e O)(hs:autoParam (swapsWith e (some (.Name x M)) pos.line X.env=pure false) I9._auto_1)(hf:X.fn x=true\/X.env.scope.names.lookup x=some .local:=by first|exact .inl r4|exact .inr r4|assumption):
  PS X (.Assign [.Name x M] e pos) (wb O (fu i)):=by
 intro aa s σ H D I h;exact wpAny_Assign_Name (aV (he _ s σ H _ I h) λv s1 ⟨y,a,b,c,d⟩=>oJ b U hi hx c (λs2 f=>⟨_,a,f,d⟩) hf) hs
end
section
variable {X:Cx}{pos:Pos}
def FY (c:TT)(tb:TS):TS:=λD σ H=>∃W:Nat->St->Hp->Prop,(∃m,W m σ H)/\∀m σ H,W m σ H ->
 c σ H λb O=>if b=true then ∃N:St->Hp->Prop,(∀M H',N M H'->∃U,U<m/\W U M H')/\tb { D with nx:=N,ct:=N,bk:=D.nx } σ O else D.nx σ O
def FZ(hp:PassesOwn (model X.prog X.w) X.A X.env X.xe)(hc:PT X c l)(hb:kj X M tb):PS X (.While c M [] pos) (FY l tb):=by
 intro aa s σ H D I h;obtain⟨W,⟨q,r⟩,U⟩:=h;refine wpAny_While (codeAny_whileLoop (λn s'=>∃a H',Inv X _ a H' s'/\W n a H') ?_ q ⟨σ,H,I,r⟩);rintro n s1 ⟨g,m,t,u⟩;refine wpAny_passesOwn hp (aV (hc _ s1 _ m _ t (U n _ m u)) λb s2 ⟨H2,o,q2⟩=>?_);cases b with
 |true=>
  obtain⟨N,p,q2⟩:=q2;refine wpAny_passesOwn hp (aV (hb _ s2 _ H2 _ o q2) λf x e=>?_);cases f with
  |next=>
   obtain⟨O,d,i,n3⟩:=e;obtain⟨j,hm,k⟩:=p _ d n3;exact⟨j,hm,O,d,i,k⟩
  |cont=>
   obtain⟨O,d,i,n3⟩:=e;obtain⟨j,hm,k⟩:=p _ d n3;exact⟨j,hm,O,d,i,k⟩
  |brk=>exact e
  |ret v=>exact e
 |false=>
  exact wpAny_execs_nil ⟨g,H2,o,q2⟩
end
structure It where
 go:Nat->Hp->Prop
 yld:Nat->Hp->V->Hp->Prop
 stop:Nat->Hp->Prop
def eZ (X:Cx)(aa:AO)(H:Hp)(b:Addr):Prop:=
 H b=none/\b≠X.env.locals/\b∉X.fs/\(b∈X.ex\/X.s₀.z<=b)/\(∀x c,X.env.cells.lookup x=some c->c≠b)/\∀p∈X.pn++aa,p.1≠b
def Inv.fpOk (I:Inv X aa σ H s)(hb:s.z<=b)(hn:H' b=none):eZ X aa H' b:=by
 refine⟨hn,ne_of_gt (vQ I.lt hb),I.nofs hb,.inr (vR I.sz hb),λx c e z=>?_,λp hp z=>?_⟩
 .obtain⟨v,q⟩:=I.cell x c e;exact absurd (vQ q.lt (by rw[z];exact hb)) (Nat.lt_irrefl _)
 .exact absurd (vQ (vX (I.pin p hp).1) (by rw[z];exact hb)) (Nat.lt_irrefl _)
structure Turn (P:Program)(w:World)(K:Frag)(tg:Expr)(J:It)(fp:List Addr)(it:Addr)(tn:Nat->Heap->Prop):Prop where
 mem:it∈fp
 obj:∀i h,tn i h->∀b∈fp,∃o,h.get? b=some o/\∀v,o.data≠.cell v
 keep:∀i h h',tn i h->(∀b∈fp,∀o,h.get? b=some o->h'.get? b=some o)->tn i h'
 item:∀(X:Cx),X.prog=P->X.w=w->X.K=K->X.calm=true->∀(i:Nat)(aa:List (Addr×Obj))(s:Shared)(σ:St)(H:Hp)(E:Value->Shared->Prop),Inv X aa σ H s->(∀b∈fp,eZ X aa H b)->tn i s.heap->J.go i H ->
  wpAny (model P w) X.A (pyNext (.ref it)) (λr s1=>∃u,r=some u /\
   wpAny (model P w) X.A (letOwnedTupleGo tg (.ref it) u) (λ_ s2=>∃x H',Inv X aa σ H' s2/\aA x u/\J.yld i H x H'/\tn (i+1) s2.heap/\∀b∈fp,H' b=none) E s1) E s
 done:∀(X:Cx),X.prog=P->X.w=w->X.K=K->X.calm=true->∀(i:Nat)(aa:List (Addr×Obj))(s:Shared)(σ:St)(H:Hp)(E:Value->Shared->Prop),Inv X aa σ H s->(∀b∈fp,eZ X aa H b)->tn i s.heap->J.stop i H ->
  wpAny (model P w) X.A (pyNext (.ref it)) (λr s1=>r=none/\Inv X aa σ H s1) E s
 self:∀(A:Around)(i:Nat)(s:Shared)(Q:Value->Shared->Prop)(E:Value->Shared->Prop),tn i s.heap->Q (.ref it) s->wpAny (model P w) A (pyIter (.ref it)) Q E s
abbrev TI:=St->Hp->(It->Hp->Prop)->Prop
inductive PIE (X:Cx)(aa:AO)(σ:St)(tg:Expr)(R:It->Hp->Prop)(M:Value)(s2:Shared):Prop|mk (it:Addr)(fp:List Addr)(tn:Nat->Heap->Prop)(J:It)(H':Hp):M=.ref it->Inv X aa σ H' s2->Turn X.prog X.w X.K tg J fp it tn->tn 0 s2.heap->(∀b∈fp,eZ X aa H' b)->R J H'->PIE X aa σ tg R M s2
def PI (X:Cx)(tg M:Expr)(O:TI):Prop:=
 ∀(aa:AO)(s:Shared)(σ:St)(H:Hp)(R:It->Hp->Prop),Inv X aa σ H s->O σ H R ->
  wq X (eval M X.env) (λv s1=>wq X (pyIter v) (PIE X aa σ tg R) X.xe s1) X.xe s
def re (U:s.heap.get? it=some o)(hc:o.cls=.type n)(hd:o.data=.fields vs)
    (hn:["enumerate","zip","dict_itemiterator","dict_reverseitemiterator","odict_iterator","itertools.zip_longest","itertools.pairwise"].contains n=false) (O:Q () s):wpAny M A (letOwnedTupleGo tg (.ref it) u) Q E s:=by
  cases tg<;>first
    |exact wY O
    | (cases u<;>first
        |exact wY O
        | (refine wX (wpAny_load U ?_)
           rw[hc,hd]
           show wpAny M A (if(["enumerate","zip","dict_itemiterator","dict_reverseitemiterator","odict_iterator","itertools.zip_longest","itertools.pairwise"].contains n && vs[0]? == some _)=true then _ else _) Q E s
           rw[if_neg (by intro h;rw[hn]at h;cases h)]
           exact wY O))
noncomputable def Itl (K:Frag)(a:Addr):It:=
 ⟨λi H=>∃xs x,dj K H a xs/\xs[i]? = some x,λi H x H'=>H'=H/\∀xs,dj K H a xs->xs[i]? = some x,λi H=>∃xs,dj K H a xs/\xs.length<=i⟩
noncomputable def Itt (K:Frag)(a:Addr):It:=
 ⟨λi H=>∃xs x,dM K H a xs/\xs[i]? = some x,λi H x H'=>H'=H/\∀xs,dM K H a xs->xs[i]? = some x,λi H=>∃xs,dM K H a xs/\xs.length<=i⟩
noncomputable def SI (lo:Int)(n:Nat):It:=⟨λi z=>i<n,λi H x H'=>H'=H/\x=.int (lo+i),λi z=>n<=i⟩
def Ea {P:Program}{w:World}{K:Frag}{tg:Expr}(a it:Addr):Turn P w K tg (Itl K a) [it] it (λi h=>h.IsListIter it a i) where
 mem:=X9
 obj:=λi h st b hb=>by
  have e:=by simpa using hb
  obtain⟨o,e,c,d⟩:=st;simp_all
 keep:=λi h h' st k=>st.at λo e=>k it X9 o e
 item:=by
  intro X O hw U hc i aa s σ H E I hf st f;subst O hw U;refine cX λG W=>?_;obtain⟨xs,x,hq,hx⟩:=f;refine I.lisE hq λits g p hz=>?_;obtain⟨u,hu,ru⟩:=g.get hx;obtain⟨j,f1,f2,l,m,n⟩:=hf it X9;apply W;clear W;refine wpAny_pyNext_list_item st p.isList (by simpa using hu) λh' M q=>?_;have r:=I.turned (t':=s.toks) (λb o hb e=>(q.2 b hb).trans e) j f1 l m n;obtain⟨o,e,c,d⟩:=id M;exact⟨u,r4,re e c d Z9 ⟨x,H,r,ru,⟨r4,λys hy=>by rw[I.list_inj hy hq];exact hx⟩,M,λb hb=>(hf b hb).1⟩⟩
 done:=by
  intro X O hw U hc i aa s σ H E I hf st f;subst O hw U;refine cX λG W=>?_;obtain⟨xs,hq,hx⟩:=f;refine I.lisE hq λits g p hz=>?_;obtain⟨j,f1,f2,l,m,n⟩:=hf it X9;apply W;clear W;have hl:=g.length;exact wpAny_pyNext_list_end (I.ok.hd hc) st p.isList W9 λh' t=>⟨r4,I.turned (λb o hb e=>t b o hb e) j f1 l m n⟩
 self:=λz z z z z st h=>wpAny_pyIter_listiter st h
def yG {P:Program}{w:World}{K:Frag}{tg:Expr}(a it:Addr):Turn P w K tg (Itt K a) [it] it (λi h=>h.IsTupleIter it a i) where
 mem:=X9
 obj:=λi h st b hb=>by
  have e:=by simpa using hb
  obtain⟨o,e,c,d⟩:=st;simp_all
 keep:=λi h h' st k=>st.at λo e=>k it X9 o e
 item:=by
  intro X O hw U hc i aa s σ H E I hf st f;subst O hw U;refine cX λG W=>?_;obtain⟨xs,x,hq,hx⟩:=f;refine I.tupE hq λits g p hz=>?_;obtain⟨u,hu,ru⟩:=g.get hx;obtain⟨j,f1,f2,l,m,n⟩:=hf it X9;apply W;clear W;refine wpAny_pyNext_tuple_item st (show s.heap.IsTuple a _ from p) (by simpa using hu) λh' M q=>?_;have r:=I.turned (t':=s.toks) (λb o hb e=>(q.2 b hb).trans e) j f1 l m n;obtain⟨o,e,c,d⟩:=id M;exact⟨u,r4,re e c d Z9 ⟨x,H,r,ru,⟨r4,λys hy=>by rw[I.tuple_inj hy hq];exact hx⟩,M,λb hb=>(hf b hb).1⟩⟩
 done:=by
  intro X O hw U hc i aa s σ H E I hf st f;subst O hw U;refine cX λG W=>?_;obtain⟨xs,hq,hx⟩:=f;refine I.tupE hq λits g p hz=>?_;obtain⟨j,f1,f2,l,m,n⟩:=hf it X9;apply W;clear W;have hl:=g.length;exact wpAny_pyNext_tuple_end (I.ok.hd hc) st (show s.heap.IsTuple a _ from p) W9 λh' t=>⟨r4,I.turned (λb o hb e=>t b o hb e) j f1 l m n⟩
 self:=λz z z z z st h=>wpAny_pyIter_tupleiter st h
def yH {P:Program}{w:World}{K:Frag}{tg:Expr}(it:Addr)(lo:Int)(n:Nat):Turn P w K tg (SI lo n) [it] it (λi h=>IsRangeIter h it (lo+(i:Nat)*1) ((n:Int) - (i:Nat)) 1) where
 mem:=X9
 obj:=λi h st b hb=>by
  simp_all
 keep:=λi h h' st k=>k it X9 _ st
 item:=by
  intro X f hw g hc i aa s σ H E I hf st O;subst f hw g;obtain⟨U,f1,f2,a,c,d⟩:=hf it X9;have W:=Walks.range (prog:=X.prog) (w:=X.w) (I.ok.hd hc) it lo 1 n;refine W.item i s _ _ O st λv h' tk j M l=>?_;obtain⟨t,rfl⟩:=j;refine⟨_,r4,re M r4 r4 Z9 ⟨.int _,H,I.turned (λb o hb e=>l b o (by simpa using hb) e) U f1 a c d,⟨t,?_⟩,⟨r4,r4⟩,M,λb hb=>(hf b hb).1⟩⟩;simp
 done:=by
  intro X f hw g hc i aa s σ H E I hf st O;obtain⟨U,f1,f2,a,c,d⟩:=hf it X9;exact wpAny_pyNext_range_end (I.ok.hd hc) st (by have:n<=i:=O;lia) λh' p=>⟨r4,I.turned (λb o hb e=>p b o hb e) U f1 a c d⟩
 self:=λz z z z z st h=>wpAny_pyIter_rangeiter st h
section
variable {X:Cx}{tg:Expr}
def SJ (K:Frag)(tl:TE):TI:=λσ H R=>tl σ H λx M=>∃a,x=.ref a/\(∃xs,dj K M a xs)/\R (Itl K a) M
def XZ (K:Frag)(tl:TE):TI:=λσ H R=>tl σ H λx M=>∃a,x=.ref a/\(∃xs,dM K M a xs)/\R (Itt K a) M
def Kv(hl:PE X l tl):PI X tg l (SJ X.K tl):=by
 intro aa s σ H R I h;refine aV (hl _ s σ H _ I h) λv s1 ⟨x,O,M,U,c⟩=>?_;obtain⟨a,e,⟨xs,hq⟩,q⟩:=c;subst e;cases U
 refine M.lisE hq λits d p hz=>wpAny_pyIter_list p.isList ?_;refine⟨s1.z,[s1.z],_,_,O,r4,M.kept λb o=>vZ _,Ea a _,⟨_,vY _ r4,r4,r4⟩,λb hb=>?_,q⟩;have e:=by simpa using hb
 subst e;exact M.fpOk (vT _) (M.hok.fresh (vT _))
def Pa(hl:PE X l tl):PI X tg l (XZ X.K tl):=by
 intro aa s σ H R I h;refine aV (hl _ s σ H _ I h) λv s1 ⟨x,O,M,U,c⟩=>?_;obtain⟨a,e,⟨xs,hq⟩,q⟩:=c;subst e;cases U
 refine M.tupE hq λits d p hz=>wpAny_pyIter_tuple (show s1.heap.IsTuple a _ from p) ?_;refine⟨s1.z,[s1.z],_,_,O,r4,M.kept λb o=>vZ _,yG a _,⟨_,vY _ r4,r4,r4⟩,λb hb=>?_,q⟩;have e:=by simpa using hb
 subst e;exact M.fpOk (vT _) (M.hok.fresh (vT _))
def wc {aa:AO}{σ:St}{H:Hp}{s:Shared}{R:It->Hp->Prop}{E:QV}{lo hi:Int}{t u v:Tok}{tk:Nat}(I:Inv X aa σ H s)(h1 : -(2 ^ 62)<=lo)(h2:lo<2 ^ 62)(h3 : -(2 ^ 62)<=hi)(h4:hi<2 ^ 62)
  (q:R (SI lo (hi - lo).toNat) H):wq X (pyIter (.ref s.z)) (PIE X aa σ tg R) E { s with heap:=s.heap.push { cls:=.type "range",data:=.fields #[.int lo t,.int hi u,.int 1 v] },toks:=tk }:=by
 refine wpAny_pyIter_range (IsRange.new ..) (small_one h1 h2 h3 h4) ?_;have M:Inv X _ σ H { s with heap:=s.heap.push { cls:=.type "range",data:=.fields #[.int lo t,.int hi u,.int 1 v] },toks:=tk }:=I.kept λb o e=>vZ _ e;refine⟨(s.heap.push _).objs.size,[(s.heap.push _).objs.size],_,_,H,r4,
  M.kept λb o e=>vZ _ e,yH _ lo _,?_,λb hb=>?_,q⟩
 .have O:lo+((0:Nat):Int)*1=lo:=X9
  have e2:(((hi - lo).toNat:Nat):Int) - ((0:Nat):Int)=Builtin.Range.rangeSize lo hi 1:=by rw[rangeSize_one];split<;>lia
  rw[O,e2];exact vY _ r4
 .have e:b=(s.heap.push { cls:=.type "range",data:=.fields #[.int lo t,.int hi u,.int 1 v] }).objs.size:=by simpa using hb
  subst e;exact M.fpOk (vT _) (M.hok.fresh (vT _))
def SK (ta:TA):TI:=λσ H R=>ta σ H λvs M=>∃j:Int,vs=[.int j]/\-(2 ^ 62)<=j/\j<2 ^ 62/\R (SI 0 j.toNat) M
def SM (ta:TA):TI:=λσ H R=>ta σ H λvs M=>∃i j:Int,vs=[.int i,.int j]/\(-(2 ^ 62)<=i/\i<2 ^ 62/\-(2 ^ 62)<=j/\j<2 ^ 62)/\R (SI i (j - i).toNat) M
def Eb(U:Gl X "range")(hm:X.mg "range" = none)(ha:PA X [a] ta)(hs:autoParam (ce a X.env) I9._auto_1):PI X tg (.Call (.Name "range" p) [a] [] M) (SK ta):=by
 intro aa s σ H R I h;refine Call_ (dn I U hm boot_range (PyProof.Rows.callWith_type1 (aV (ha _ _ s σ H _ I h) λus s1 ⟨vs,f,b,c,O⟩=>?_) hs r4));obtain⟨j,e,O,q2,q⟩:=O;subst e;cases c with
 |cons r d=>
  cases d
  obtain⟨t,rfl⟩:=r;exact call_range_1 (wc b N9 N9 O q2 (by simpa using q))
def Ed{ta:TA}{p O:Pos}(d:Gl X "range")(hm:X.mg "range" = none)(ha:PA X [a,b] ta)(hs:autoParam (starEach [a,b] X.env=[(false,eval a X.env),(false,eval b X.env)]) I9._auto_1)(M:autoParam (ce b X.env) I9._auto_1):
  PI X tg (.Call (.Name "range" p) [a,b] [] O) (SM ta):=by
 intro aa s σ H R I h;refine Call_ (dn I d hm boot_range (PyProof.Rows.callWith_type1 (aV (ha _ _ s σ H _ I h) λus s1 ⟨vs,n,f,g,U⟩=>?_) (by rw[hs,M]) (by rw[M];rfl)));refine cX λG K=>?_;obtain⟨i,j,e,⟨U,q2,k,l⟩,q⟩:=U;apply K;subst e;cases g with
 |cons r c=>
  cases c with
  |cons m c=>
   cases c
   obtain⟨t,rfl⟩:=r;obtain⟨t',rfl⟩:=m;exact call_range_2 (wc f U q2 k l q)
def Pb (a:TI)(g:TG)(tb:TS):TS:=λD σ H=>a σ H λJ b=>∃W:Nat->Nat->St->Hp->Prop,(∃m,W 0 m σ b)/\∀i m σ H,W i m σ H ->
 (J.stop i H/\D.nx σ H)\/(J.go i H/\∃N:St->Hp->Prop,(∀M H',N M H'->∃U,U<m/\W (i+1) U M H')/\∀x H',J.yld i H x H'->g x σ H' λO H2=>tb { D with nx:=N,ct:=N,bk:=D.nx } O H2)
def lK (fp:List Addr)(h:Heap):AO:=fp.filterMap λb=>(h.get? b).map λo=>(b,o)
def gz{b:Addr}{o:Obj}(hb:b∈fp)(e:h.get? b=some o):(b,o)∈lK fp h:=mem_filterMap.mpr ⟨b,hb,by rw[e];rfl⟩
def Ee (hp:p∈lK fp h):p.1∈fp/\h.get? p.1=some p.2:=by
 obtain⟨b,hb,e⟩:=mem_filterMap.mp hp;simp_all<;>lia
def Inv.pinned (I:Inv X aa σ H s)(hf:∀b∈fp,eZ X aa H b)(M:∀b∈fp,∃o,s.heap.get? b=some o/\∀v,o.data≠.cell v):Inv X (aa++lK fp s.heap) σ H s:=
 I.pins_of λp hp=>(mem_append.mp hp).elim (λz=>I.pin p (mY _ z)) λz=>by
  obtain⟨hb,e⟩:=Ee z;obtain⟨O,f1,f2,y⟩:=hf _ hb;grind
def Inv.unpinned (I:Inv X (aa++pl) σ H s):Inv X aa σ H s:=I.pins_of λp hp=>I.pin p (mY _ (List.mem_append_left _ hp))
def yI {O:Expr}{l:List Stmt}{K:TI}{g:TG}{tb:TS}{z:Pos}(hp:PassesOwn (model X.prog X.w) X.A X.env X.xe)(hc:X.calm=true)(hi:PI X tg O K)(S:PG X tg g)(hb:kj X l tb)
  (hs:∀x,foldedSetIterable O X.env x=pure x:=by intro _;rfl):PS X (.For tg O l [] z) (Pb K g tb):=by
 intro aa s σ H D I h;refine wpAny_For (aV (hi aa s σ H _ I h) λv s1 h1=>aV h1 λZ7 s2 h2=>?_) hs;obtain⟨it,fp,tn,J,H2,e,V,T,Y,f2,W,⟨Z,w0⟩,R7⟩:=h2;subst e
 -- what stays true of the iterator's objects through the loop
 have U:∀ {H':Hp},(∀b∈fp,H' b=none)->∀b∈fp,eZ X aa H' b:=λhn b hb=>⟨hn b hb,(f2 b hb).2⟩;refine codeAny_forLoop_any (λn s'=>∃i a H',Inv X aa a H' s'/\tn i s'.heap/\(∀b∈fp,H' b=none)/\W i n a H') ?_ Z ⟨0,σ,H2,V,Y,λb hb=>(f2 b hb).1,w0⟩;rintro n L ⟨i,c,y,P,Q,q,w3⟩;rcases R7 i n c y w3 with⟨stop,qn⟩|⟨go,N,hN,step⟩
 .refine wpAny_passesOwn hp (aV (T.done X r4 r4 r4 hc i aa L c y X.xe P (U q) Q stop) λr s4 ⟨B,I4⟩=>?_);subst B;exact wpAny_execs_nil ⟨c,y,I4,qn⟩
 .refine wpAny_passesOwn hp (aV (T.item X r4 r4 r4 hc i aa L c y X.xe P (U q) Q go) λr s4 ⟨u,B,h4⟩=>?_);subst B;refine wpAny_passesOwn hp (aV h4 λ_ s5 ⟨x,R,I5,r5,y5,C,W4⟩=>?_);have E:=I5.pinned (U W4) (T.obj _ _ C);refine wpAny_passesOwn hp (aV (S _ s5 c R x u _ E r5 (step x R y5)) λ_ s6 ⟨F,H6,I6,q6⟩=>?_);refine wpAny_passesOwn hp (aV (hb _ s6 F H6 _ I6 q6) λf G p=>?_);have again:∀ {M:St}{j:Hp},Inv X _ M j G->N M j->∃m,m<n/\∃i a H',Inv X aa a H' G/\tn i G.heap/\(∀b∈fp,H' b=none)/\W i m a H':=λ{M j} k t=>by
   obtain⟨m',hm,w7⟩:=hN M j t;refine⟨m',hm,i+1,M,j,k.unpinned,T.keep _ _ _ C λb hb o e=>(k.pin (b,o) (mY _ (mY _ (gz hb e)))).1,λb hb=>?_,w7⟩;obtain⟨o,e,d⟩:=T.obj _ _ C b hb;exact(k.pin (b,o) (mY _ (mY _ (gz hb e)))).2.1
  cases f with
  |next=>obtain⟨M,j,k,t⟩:=p;exact again k t
  |cont=>obtain⟨M,j,k,t⟩:=p;exact again k t
  |brk=>obtain⟨M,j,k,p⟩:=p;exact⟨M,j,k.unpinned,p⟩
  |ret v=>obtain⟨x7,M,j,k,r7,p⟩:=p;exact⟨x7,M,j,k.unpinned,r7,p⟩
end
abbrev R2:=V->V->Hp->VK->Prop
def bT (X:Cx)(f:Value->Value->Sem Value)(r:R2):Prop:=
 ∀(aa:AO)(s:Shared)(σ:St)(H:Hp)(x y:V)(v u:Value)(Q:VK),Inv X aa σ H s->aA x v->aA y u->r x y H Q ->
  wq X (f v u) (EP X aa σ Q) X.xe s
def SN (X:Cx)(f:Value->Sem Value)(r:V->Hp->VK->Prop):Prop:=
 ∀(aa:AO)(s:Shared)(σ:St)(H:Hp)(x:V)(v:Value)(Q:VK),Inv X aa σ H s->aA x v->r x H Q ->
  wq X (f v) (EP X aa σ Q) X.xe s
def aY (X:Cx)(f:Value)(r:List V->Hp->VK->Prop):Prop:=
 ∀(aa:AO)(s:Shared)(σ:St)(H:Hp)(xs:List V)(us:LU)(Q:VK),Inv X aa σ H s->aD xs us->r xs H Q ->
  wq X (call f us) (EP X aa σ Q) X.xe s
def RN (r:R2)(ta tb:TE):TE:=λσ H Q=>ta σ H λx M=>tb σ M λy H2=>r x y H2 Q
def tUn (r:V->Hp->VK->Prop)(ta:TE):TE:=λσ H Q=>ta σ H λx M=>r x M Q
inductive B2 (C:Int->Int->Prop)(g:Int->Int->V)(x y:V)(H:Hp)(Q:VK):Prop|mk i j:x=.int i->y=.int j->C i j->Q (g i j) H->B2 C g x y H Q
def rI (C:Int->Int->Prop)(g:Int->Int->V):R2:=λx y H Q=>B2 C g x y H Q
inductive Cl (g:Int->Int->V)(x y:V)(H:Hp)(Q:VK):Prop|mk i j:x=.int i->y=.int j->Q (g i j) H->Cl g x y H Q
def Ga (g:Int->Int->V):R2:=λx y H Q=>Cl g x y H Q
def rU (g:Int->V):V->Hp->VK->Prop:=λx H Q=>∃i,x=.int i/\Q (g i) H
section
variable {X:Cx}{a b c:Expr}{ta tb tc:TE}{pos:Pos}
def Pc (ha:PE X a ta)(hb:PE X b tb){R:V->V->Hp->Prop}(I:Inv X aa σ H s)
  (h:ta σ H λx U=>tb σ U λy H2=>R x y H2){f:Value->Value->Sem Value}
  (hf:∀v u s2 x y H2,Inv X aa σ H2 s2->aA x v->aA y u->R x y H2->wq X (f v u) Q X.xe s2):
  wq X (eval a X.env) (λv M=>wq X (eval b X.env) (λu O=>wq X (f v u) Q X.xe O) X.xe M) X.xe s:=by
 refine aV (ha _ s σ H _ I h) λv s1 ⟨x,U,d,e,g⟩=>?_;exact aV (hb _ s1 σ U _ d g) λu s2 ⟨y,H2,i,j,q2⟩=>hf v u s2 x y H2 i e j q2
def A9(M:bT X (binaryOp op) r)(ha:PE X a ta)(hb:PE X b tb):PE X (.BinOp a op b pos) (RN r ta tb):=λaa s σ H Q I h=>wpAny_BinOp (Pc ha hb I h λv u s2 x y H2 O U d=>M _ s2 σ H2 x y v u Q O U d)
def SO(M:SN X (unaryOp op) r)(ha:PE X a ta):PE X (.UnaryOp op a pos) (tUn r ta):=λaa s σ H Q I h=>UnaryOp_ (aV (ha _ s σ H _ I h) λv s1 ⟨x,O,U,d,e⟩=>M _ s1 σ O x v Q U d e)
def Pd{C:Int->Int->Prop}{g:Int->Int->Int}
  (rule:∀i j(t u)s(Q:QV)(E:QV),C i j->Q (.int (g i j) s.toks) { s with toks:=s.toks+1 }->wq X (f (.int i t) (.int j u)) Q E s):
  bT X f (rI C λi j=>.int (g i j)):=by
 intro aa s σ H x y v u Q I M O h;obtain⟨i,j,rfl,rfl,hc,q⟩:=h;obtain⟨t,rfl⟩:=M;obtain⟨t',rfl⟩:=O;exact rule i j t t' s _ _ hc ⟨.int _,H,I.tok _,⟨_,r4⟩,q⟩
def Kw{g:Int->Int->Int}
  (rule:∀i j(t u)s(Q:QV)(E:QV),Q (.int (g i j) s.toks) { s with toks:=s.toks+1 }->wq X (f (.int i t) (.int j u)) Q E s):
  bT X f (Ga λi j=>.int (g i j)):=by
 intro aa s σ H x y v u Q I M O h;obtain⟨i,j,rfl,rfl,q⟩:=h;obtain⟨t,rfl⟩:=M;obtain⟨t',rfl⟩:=O;exact rule i j t t' s _ _ ⟨.int _,H,I.tok _,⟨_,r4⟩,q⟩
def Kx{g:Int->Int->Bool}
  (rule:∀i j(t u)s(Q:QV)(E:QV),Q (.bool (g i j)) s->wq X (f (.int i t) (.int j u)) Q E s):
  bT X f (Ga λi j=>.bl (g i j)):=by
 intro aa s σ H x y v u Q I M O h;obtain⟨i,j,rfl,rfl,q⟩:=h;obtain⟨t,rfl⟩:=M;obtain⟨t',rfl⟩:=O;exact rule i j t t' s _ _ ⟨.bl _,H,I,r4,q⟩
def SQ (i j:Int):Prop:=0<j/\j<1073741824
def Ky (i j:Int):Prop:=0<=j/\j<=1000000/\i.natAbs<2 ^ 64
def Kz (i j:Int):Prop:=(-(2 ^ 64)<i/\i<2 ^ 64)\/(-(2 ^ 64)<j/\j<2 ^ 64)
def Kz.ok (h:Kz i j):IntMulOk i j:=by
 rcases h with⟨h1,h2⟩|⟨h1,h2⟩
 .exact .of_left (intBits_le_64 h1 h2)
 .exact .of_right (intBits_le_64 h1 h2)
def yJ k:(0:Int)<=2 ^ k:=by
 lia
def Pe:bT X (binaryOp .Add) (Ga λi j=>.int (i+j)):=Kw λz z z z z z z=>add_int
def Pf:bT X (binaryOp .Sub) (Ga λi j=>.int (i - j)):=Kw λz z z z z z z=>sub_int
def Pg:bT X (binaryOp .Mult) (rI Kz λi j=>.int (i*j)):=Pd λz z z z z z z hc q=>mul_int q hc.ok
def K0:bT X (binaryOp .FloorDiv) (rI SQ λi j=>.int (i / j)):=Pd λi j z z z z z hc q=>by
 have h1:=hc.1;have h2:=hc.2;grind[floordiv_int,PyProof.noPylong_small]
def Ph:bT X (binaryOp .Mod) (rI (λz j=>0<j) λi j=>.int (i % j)):=Pd λi j z z z z z hc q=>mod_int' N9 (by rw[Int.fmod_eq_emod_of_nonneg i N9];exact q)
def Pj:bT X (binaryOp .Pow) (rI Ky λi j=>.int (i ^ j.toNat)):=Pd λz z z z z z z hc=>pow_int_small hc.1 hc.2.1 hc.2.2
def Pk:bT X (binaryOp .LShift) (rI Ky λi j=>.int (i*2 ^ j.toNat)):=Pd λz z z z z z z hc=>lshift_int_small hc.1 hc.2.1 hc.2.2
def Pm:bT X (binaryOp .RShift) (rI (λz j=>0<=j) λi j=>.int (i / 2 ^ j.toNat)):=Pd λi j z z z z z hc q=>
 rshift_int hc (by rw[Int.fdiv_eq_ediv_of_nonneg i (yJ _)];exact q)
def Pn:bT X (binaryOp .BitAnd) (Ga λi j=>.int (Builtin.bitAnd i j)):=Kw λz z z z z z z=>and_int
def SR:bT X (binaryOp .BitOr) (Ga λi j=>.int (Builtin.bitOr i j)):=Kw λz z z z z z z=>or_int
def unI{g:Int->Int}
  (rule:∀i(t)s(Q:QV)(E:QV),Q (.int (g i) s.toks) { s with toks:=s.toks+1 }->wq X (f (.int i t)) Q E s):
  SN X f (rU λi=>.int (g i)):=by
 intro aa s σ H x v Q I M h;obtain⟨i,rfl,q⟩:=h;obtain⟨t,rfl⟩:=M;exact rule i t s _ _ ⟨.int _,H,I.tok _,⟨_,r4⟩,q⟩
def Po:SN X (unaryOp .USub) (rU λi=>.int (-i)):=unI λz z z z z=>neg_int
def Ef:bT X (binaryOp .Add) (λx y H Q=>∃i k,x=.int i/\y=.bl k/\Q (.int (i+b2i k)) H):=by
 intro aa s σ H x y v u Q I M O h;obtain⟨i,k,rfl,rfl,q⟩:=h;obtain⟨t,rfl⟩:=M;cases O
 exact add_int_bool ⟨.int _,H,I.tok _,⟨_,r4⟩,q⟩
end
section
variable {X:Cx}{a b c:Expr}{ta tb tc:TE}{pos:Pos}
def SS:bT X (compareOp .Lt) (Ga λi j=>.bl (decide (i<j))):=Kx λz z z z z z z=>lt_int
def SU:bT X (compareOp .LtE) (Ga λi j=>.bl (decide (i<=j))):=Kx λz z z z z z z=>le_int
def SW:bT X (compareOp .Gt) (Ga λi j=>.bl (decide (j<i))):=Kx λz z z z z z z=>gt_int
def SX:bT X (compareOp .GtE) (Ga λi j=>.bl (decide (j<=i))):=Kx λz z z z z z z=>ge_int
def K4 (M:bT X (compareOp op) r)(ha:PE X a ta)(hb:PE X b tb)(hm:behindInMarks op b=false):PE X (.Compare a [op] [b] pos) (RN r ta tb):=λaa s σ H Q I h=>wpAny_Compare1 (Pc ha hb I h λv u s2 x y H2 O U d=>M _ s2 σ H2 x y v u Q O U d) hm
def Gb (t:TE):TT:=λσ H Q=>t σ H λx H'=>∃k,x=.bl k/\Q k H'
def t8(M:bT X (compareOp op) r)(ha:PE X a ta)(hb:PE X b tb)(hm:behindInMarks op b=false):PT X (.Compare a [op] [b] pos) (Gb (RN r ta tb)):=by
 intro aa s σ H Q I h;refine wpAny_isTrue_Compare1 (aV (ha _ s σ H _ I h) λv s1 ⟨x,O,U,d,f⟩=>aV (hb _ s1 σ O _ U f) λu s2 ⟨y,H2,g,i,q2⟩=>
  aV (M _ s2 σ H2 x y v u _ g d i q2) λc o ⟨z,j,l,m,k,e,n⟩=>?_) hm
 subst e;cases m
 exact wpAny_truthy_bool ⟨j,l,n⟩
def yK (r O:R2)(ta tb tc:TE):TE:=λσ H Q=>ta σ H λx U=>tb σ U λy H2=>r x y H2 λz M=>∃k,z=.bl k /\
 (if k=true then tc σ M λd e=>O y d e Q else Q (.bl false) M)
def Gc{r U:R2}(l:bT X (compareOp op) r)(O:bT X (compareOp M) U)(ha:PE X a ta)(hb:PE X b tb)(hc:PE X c tc)
  (hm:lastMarks [op,M] [b,c]=false:=by with_unfolding_all rfl):PE X (.Compare a [op,M] [b,c] pos) (yK r U ta tb tc):=by
 intro aa s σ H Q I h;refine Compare_chain (aV (ha _ s σ H _ I h) λv s1 ⟨x,m,n,o,p⟩=>chain_link (aV (hb _ s1 σ m _ n p) λu s2 ⟨y,H2,q,f,q2⟩=>
  aV (l _ s2 σ H2 x y v u _ q o f q2) λd t ⟨z,g,i,w,k,e,j⟩=>?_)) hm
 subst e;cases w
 refine wpAny_truthy_bool ?_;cases k with
 |false=>exact ite_ff ⟨.bl _,g,i,r4,j⟩
 |true=>exact ite_tt (chain_last (aV (hc _ t σ g _ i j) λA B ⟨C,D,E,F,G⟩=>O _ B σ D y C u A Q E f F G))
def Gd{r U:R2}(l:bT X (compareOp op) r)(O:bT X (compareOp M) U)(ha:PE X a ta)(hb:PE X b tb)(hc:PE X c tc)
  (hm:lastMarks [op,M] [b,c]=false:=by with_unfolding_all rfl):PT X (.Compare a [op,M] [b,c] pos) (Gb (yK r U ta tb tc)):=by
 intro aa s σ H Q I h;refine isTrue_chain (aV (ha _ s σ H _ I h) λv s1 ⟨x,m,n,o,p⟩=>test_link (aV (hb _ s1 σ m _ n p) λu s2 ⟨y,H2,q,f,q2⟩=>
  aV (l _ s2 σ H2 x y v u _ q o f q2) λd t ⟨z,g,i,w,k,e,j⟩=>?_)) hm
 subst e;cases w
 refine wpAny_truthy_bool ?_;cases k with
 |false=>
  obtain⟨k',A,B⟩:=j;cases A
  exact ite_ff ⟨g,i,B⟩
 |true=>
  refine ite_tt (test_last (aV (hc _ t σ g _ i j) λC D ⟨E,F,G,J,K⟩=>aV (O _ D σ F y E u C _ G f J K) λd' S ⟨T,L,N,P,k2,e2,R⟩=>?_));subst e2;cases P
  exact wpAny_truthy_bool ⟨L,N,R⟩
def oK:(sizeLine:Nat)<2 ^ 63:=Z9
def yL:bT X (binaryOp .Add) (λx y H Q=>∃i j,x=.str i/\y=.str j/\i.length+j.length<=sizeLine/\Q (.str (i++j)) H):=by
 intro aa s σ H x y v u Q I M O h;obtain⟨i,j,rfl,rfl,hz,q⟩:=h;obtain⟨t,rfl⟩:=M;obtain⟨t',rfl⟩:=O;exact add_str (λt' tk=>⟨.str _,H,I.tok _,⟨_,r4⟩,q⟩) hz
def cZ (r:aD [x] us):∃u,us=[u]/\aA x u:=by
 cases r with
 |cons M O=>cases O;exact⟨_,r4,M⟩
def NB (r:aD [x,y] us):∃u M,us=[u,M]/\aA x u/\aA y M:=by
 cases r with
 |cons O U=>
  cases U with
  |cons d e=>cases e;exact⟨_,_,r4,O,d⟩
def Eg:aY X (.type "int") (λxs H Q=>(∃i,xs=[.int i]/\Q (.int i) H)\/∃k,xs=[.bl k]/\Q (.int (if k then 1 else 0)) H):=by
 intro aa s σ H xs us Q I r h;rcases h with⟨i,rfl,q⟩|⟨k,rfl,q⟩
 .obtain⟨u,rfl,t,rfl⟩:=cZ r;exact call_int_int ⟨.int i,H,I,⟨_,r4⟩,q⟩
 .obtain⟨u,rfl,M⟩:=cZ r;cases M
  exact call_int_bool ⟨.int _,H,I.tok _,⟨_,r4⟩,q⟩
end
structure A5 (h:Heap)(x dx C:Addr)(mA:Str->Option Value):Prop where
 obj:h.get? x=some (PySem.W.instObj C dx)
 ns:h.Ns1 dx mA
 ne:dx≠x
def rf {h:Heap}{dx:Addr}{mA:SV}(n:h.Ns1 dx mA):∃od,h.get? dx=some od/\∀name,PySem.W.lookIn name od=some (mA name):=by
 refine cX λG g=>?_;obtain⟨o,es,U,O,hd,hk,x,hm⟩:=n;apply g;refine⟨o,O,λname=>?_⟩;have e:=hm name;unfold nsFind findBy at e;rw[<-Array.find?_toList]at e;unfold PySem.W.lookIn;rw[hd];dsimp;split
 .simp_all
 .have a:es.toList.any (·.refKey)=false:=by
   rw[List.any_eq_false];intro y hy;obtain⟨z,t,M⟩:=hk y (Array.mem_toList_iff.mp hy);simp[DictEntry.refKey,M]
  split<;>simp_all
def A5.look (I:A5 h x dx C mA):∃od,PySem.W.InstAt h x (PySem.W.instObj C dx) C (some od)/\∀name,PySem.W.lookIn name od=some (mA name):=
 let ⟨od,M,hl⟩:=rf I.ns
 ⟨od,⟨I.obj,r4,r4,M⟩,hl⟩
section
variable {prog:Program}{w:World}{A:Around}{E:QV}{s:Shared}{K:Frag}{x dx C f:Addr}{mA:SV}{name:Str}{v:Value}
def K5 (X:K.In s.heap)(I:A5 s.heap x dx C mA)(O:PySem.W.plainGet K C name=true)(hh:PySem.W.hasDictIn K C=true)
  (ha:PySem.W.findIn K (.ref C) name=some none) (U:mA name=some v) (M:PySem.W.handedIn v=true) (h:Q v { s with toks:=s.toks+1 }):
  wpAny (model prog w) A (getAttr (.ref x) name Nn) Q E s:=by
 obtain⟨od,J,hl⟩:=I.look;exact PySem.W.get_value X J (PySem.W.plainGet_of O).1 (PySem.W.findObj_own hh ha r4 (by rw[hl,U])) M h
def Ge (X:K.In s.heap)(I:A5 s.heap x dx C mA)(M:PySem.W.plainGet K C name=true)
  (hf:PySem.W.findIn K (.ref C) name=some (some (.ref f))) (O:PySem.W.isFn K (.ref f)=true) (U:mA name=none) (h:Q (.ref f,[.ref x]) s):
  wpAny (model prog w) A (getMethod (.ref x) name pl) Q E s:=by
 obtain⟨od,J,hl⟩:=I.look;exact PySem.W.method_fn X J (PySem.W.plainGet_of M).1 (PySem.W.plainGet_of M).2 hf (beq_iff_eq.mp O) (by show(PySem.W.lookIn _ od).map _=some _;simp_all) h
def K6 (X:K.In s.heap)(I:A5 s.heap x dx C mA)
  (hs:PySem.W.findIn K (.ref C) "__setattr__" = some (some (.builtin "object.__setattr__"))) (hp:PySem.W.plainOver K C=true) (a:PySem.W.takerIn K C name=some none) (hh:PySem.W.hasDictIn K C=true)
  (hw:PySem.Within mA ns) (hsz:ns.length<=sizeLine)
  (h:∀h',A5 h' x dx C (λy=>if y=name then some v else mA y)->Heap.SameBut dx s.heap h'->Q () { s with heap:=h',toks:=s.toks+2 }):
  wpAny (model prog w) A (setAttr (.ref x) name v) Q E s:=by
 obtain⟨od,J,hl⟩:=I.look;refine PySem.W.set_plain X J hs (PySem.W.osa_open X J hp a λb=>?_);obtain⟨j,hc,U⟩:=PySem.W.any_some hh;have hx:=I.obj;refine wX (wY (wX (wX (wpAny_loadPart hx (wX (PySem.W.Looks.here (PySem.W.looks_clsIn X hc) ?_))))));rw[U];refine wY (wX (wY (wX ?_)));refine wpAny_nsSet1 I.ns λh' M O=>?_;obtain⟨k,c,d,e,g,i⟩:=M.count (PySem.Within.cons _ v hw);refine wX (wpAny_lookBehind e (by grind[pastItsLine_dict]) ?_);exact wY (h _ ⟨(O.2 _ (Ne.symm I.ne)).trans I.obj,M,I.ne⟩ O)
def Gf (X:K.In s.heap)(hm:PySem.W.makesIn K C=true)
  (hi:PySem.W.findIn K (.ref C) "__init__" = some (some (.ref f))) (hf:PySem.W.typeIn K (.ref f)=some (.type "function"))
  (h:codeAny (model prog w) (A.under (.builtin "type.__call__" ⟨.ref C::vs,M⟩)) (.call (.ref f) ⟨.ref (s.z+1)::vs,M⟩) (PySem.W.InitBack (s.z+1) R)
   { s with heap:=(s.heap.push PySem.W.emptyDict).push (PySem.W.instObj C s.z) }):
  codeAny (model prog w) A (.call (.ref C) ⟨vs,M⟩) R s:=PySem.W.make_core (PySem.W.makes_of X hm) (PySem.W.looks_findIn X hi) (λself=>PySem.W.bind_fn X _ hf) (.inl r4) h
end
noncomputable def jv (f:Str)(v:V):List (Str×V)->List (Str×V)
 |[]=>[(f,v)]
 | (g,x)::r=>if g=f then (g,v)::r else (g,x)::jv f v r
theorem m5 f g v:∀fs:List (Str×V),(jv f v fs).lookup g=if g=f then some v else fs.lookup g
 |[]=>by
  show List.lookup g [(f,v)]=_;split<;>simp_all
 | (k,x)::r=>by
  have M:=m5 f g v r;rw[show jv f v _=(if k=f then (k,v)::r else (k,x)::jv f v r)from r4];grind
theorem lL f v:∀fs:List (Str×V),f∈(jv f v fs).map (·.1)/\∀g,g∈fs.map (·.1)->g∈(jv f v fs).map (·.1)
 |[]=>by simp_all[jv]
 | (k,x)::r=>by
  obtain⟨i1,i2⟩:=lL f v r;rw[show jv f v _=(if k=f then (k,v)::r else (k,x)::jv f v r)from r4];grind
theorem m6 f v:∀fs:List (Str×V),(jv f v fs).length<=fs.length+1
 |[]=>by simp[jv]
 | (k,x)::r=>by
  have M:=m6 f v r;rw[show jv f v _=(if k=f then (k,v)::r else (k,x)::jv f v r)from r4];split<;>simp_all
def gx.some_of (r:gx (some v) o):∃u,o=some u/\aA v u:=by
 cases o with
 |none=>exact(show False from r).elim
 |some u=>exact⟨u,r4,r⟩
def gx.none_of (r:gx none o):o=none:=by
 cases o with
 |none=>rfl
 |some u=>exact(show False from r).elim
def Eh (r:aA v u):PySem.W.handedIn u=true:=by
 cases v with
 |non=>cases (show u=Value.none from r);rfl
 |bl b=>cases (show u=Value.bool b from r);rfl
 |int i=>obtain⟨t,e⟩:=(show ∃t,u=Value.int i t from r);cases e;rfl
 |str x=>obtain⟨t,e⟩:=(show ∃t,u=Value.str x t from r);cases e;rfl
 |byt b=>obtain⟨t,e⟩:=(show ∃t,u=Value.bytes b t from r);cases e;rfl
 |flt b=>obtain⟨t,e⟩:=(show ∃t,u=Value.float b t from r);cases e;rfl
 |ref a=>cases (show u=Value.ref a from r);rfl
 |ty n=>cases (show u=Value.type n from r);rfl
section
variable {P:Program}{w:World}{H H':Hp}{h h':Heap}{a C dx:Addr}{fs fs':List (Str×V)}
def nL (hok:gy P w H h)(e:H a=some (.ins C dx fs)):∃mA,A5 h a dx C mA/\(∀f,gx (fs.lookup f) (mA f))/\PySem.Within mA (fs.map (·.1))/\fs.length<=1000/\H dx=some (.own a):=by
 refine cX λG g=>?_;obtain⟨d,z,ne,ob,mA,n,r,q⟩:=(show aE P w H h a _ from hok a _ e);apply g;exact⟨mA,⟨ob,n,ne⟩,r,q,z,d⟩
end
structure Cls (K:Frag)(C:Addr):Prop where
 pg:PySem.W.plainGet K C Str.empty=true
 hd:PySem.W.hasDictIn K C=true
 po:PySem.W.plainOver K C=true
 sa:PySem.W.findIn K (.ref C) "__setattr__" = some (some (.builtin "object.__setattr__"))
def Cls.get {K:Frag}{C:Addr}(c:Cls K C)f:PySem.W.plainGet K C f=true:=c.pg
def NoAttr (K:Frag)(C:Addr)(f:Str):Prop:=PySem.W.findIn K (.ref C) f=some none
def NoAttr.taker {K:Frag}{C:Addr}{f:Str}(n:NoAttr K C f):PySem.W.takerIn K C f=some none:=by
 unfold PySem.W.takerIn;rw[show PySem.W.findIn K _ f=some _ from n];rfl
structure qY (K:Frag)(C:Addr)(m:Str)(f:Addr):Prop where
 at_:PySem.W.findIn K (.ref C) m=some (some (.ref f))
 fn:PySem.W.isFn K (.ref f)=true
 kp:PySem.W.keepIn K (.ref f)=true
section
variable {X:Cx}{aa:AO}{σ:St}{H:Hp}{s:Shared}{a C dx:Addr}{fs:List (Str×V)}{f:Str}{v:V}{A:Around}{E:QV}
def yM {b:Bool}{Q:QV}(I:Inv X aa σ H s)(e:H a=some (.ins C dx fs))(c:Cls X.K C)(n:NoAttr X.K C f)(l:fs.lookup f=some v)
  (h:∀u s',Inv X aa σ H s'->aA v u->Q u s'):wpAny (model X.prog X.w) A (getAttr (.ref a) f b) Q E s:=by
 refine cX λG g=>?_;obtain⟨mA,O,r,z,z,z⟩:=nL I.hok e;obtain⟨u,hu,ru⟩:=gx.some_of (by rw[<-l];exact r f);apply g;exact K5 I.kIn O (c.get f) c.hd n hu (Eh ru) (h u _ (I.tok _) ru)
def jG {m:Str}{g:Addr}{pl:Sem Bool}{Q:Value×LU->Shared->Prop}(I:Inv X aa σ H s)(e:H a=some (.ins C dx fs))(c:Cls X.K C)(k:qY X.K C m g)(l:fs.lookup m=none)
  (h:Q (.ref g,[.ref a]) s):wpAny (model X.prog X.w) A (getMethod (.ref a) m pl) Q E s:=by
 obtain⟨mA,O,r,z,z,z⟩:=nL I.hok e;have hn:=gx.none_of (by rw[<-l];exact r m);exact Ge I.kIn O (c.get m) k.at_ k.fn hn h
def yN(I:Inv X aa σ H s)(e:H a=some (.ins C dx fs))(c:Cls X.K C)(n:NoAttr X.K C f)(hl:fs.length<1000)(i:aA y u)
  (h:∀s',Inv X aa σ (upd H a (.ins C dx (jv f y fs))) s'->Q () s'):wpAny (model X.prog X.w) A (setAttr (.ref a) f u) Q E s:=by
 obtain⟨mA,O,r,U,x,d⟩:=nL I.hok e;refine K6 I.kIn O c.sa c.po n.taker c.hd U (by rw[vI,sizeLine_eq];lia) λh' M j=>h _ ?_;refine I.write (by rw[e];exact True.intro) (.inr d) (λb q hb z=>(j.2 b hb).trans z) (let ⟨o,_,_,k,_⟩:=M.ns;⟨o,k⟩) ?_;refine⟨by rw[af O.ne];exact d,?_,O.ne,M.obj,_,M.ns,λg=>?_,λg l=>?_⟩
 .have:=m6 f y fs;lia
 .rw[m5];by_cases q:g=f
  .rw[if_pos q,if_pos q];exact i
  simp_all
 .by_cases q:g=f
  .rw[q];exact(lL f y fs).1
  .refine(lL f y fs).2 g (U g λz=>l ?_);simp_all
def Inv.made (I:Inv X aa σ H s):Inv X aa σ (upd (upd H s.z (.own (s.z+1))) (s.z+1) (.ins C s.z []))
  { s with heap:=(s.heap.push PySem.W.emptyDict).push (PySem.W.instObj C s.z) }:=by
 have M:(s.heap.push PySem.W.emptyDict).get? _=some _:=vY _ r4;refine (I.laid (o:=.own (s.z+1)) (t':=s.toks) (λb u q=>vZ _ q) (vT _) ⟨_,M⟩).laid (λb u=>vZ _) (le_of_eq (Heap.size_push _ _)) ?_;refine⟨by rw[af (vS (lt_succ_self _)),ae],uO _,(vS (lt_succ_self _)),by
  have:=vY (s.heap.push PySem.W.emptyDict) (o:=PySem.W.instObj C s.z) r4;simp_all,λx=>none,(Heap.Ns1.of_empty ⟨PySem.W.emptyDict,#[],_,M,r4,(λe he=>absurd he X9),λx=>r4⟩).at λo=>vZ _,λx=>True.intro,λy=>absurd r4⟩
def AA{env:Env}{e:Expr}{f:Str}{O:Pos}{s:Shared}{Q:QV}(hb:attributeBase e f env (eval e env)=eval e env)
  (h:wpAny (model prog w) A (eval e env) (λo M=>wpAny (model prog w) A (getAttr o f true) Q E M) E s):wpAny (model prog w) A (eval (.Attribute e f O) env) Q E s:=
 Attribute_any_ h (by rw[arm_eval_Attribute,hb])
end
inductive Cm (K:Frag)(f:Str)(Q:VK)(x:V)(M:Hp):Prop|mk a C dx fs v:x=.ref a->M a=some (.ins C dx fs)->Cls K C->NoAttr K C f->fs.lookup f=some v->Q v M->Cm K f Q x M
def K7 (K:Frag)(ta:TE)(f:Str):TE:=λσ H Q=>ta σ H λx M=>Cm K f Q x M
inductive C0 (K:Frag)(f:Str)(D:Ends)(σ:St)(y x:V)(H2:Hp):Prop|mk a C dx fs:x=.ref a->H2 a=some (.ins C dx fs)->Cls K C->NoAttr K C f->fs.length<1000->D.nx σ (upd H2 a (.ins C dx (jv f y fs)))->C0 K f D σ y x H2
def SY (K:Frag)(ta M:TE)(f:Str):TS:=λD σ H=>M σ H λy O=>ta σ O λx H2=>C0 K f D σ y x H2
section
variable {X:Cx}{o e value:Expr}{f:Str}{pos nJ R8:Pos}{ta tv:TE}
def fJ (he:PE X e ta)(hb:attributeBase e f X.env (eval e X.env)=eval e X.env):PE X (.Attribute e f pos) (K7 X.K ta f):=by
 intro aa s σ H Q I h;refine AA hb (aV (he _ s σ H _ I h) λu s1 ⟨x,M,O,U,a,C,dx,fs,v,ex,b,c,n,l,q⟩=>?_);subst ex;obtain rfl:u=Value.ref a:=U;exact yM O b c n l λu' s2 d ru=>⟨v,M,d,ru,q⟩
def lM (ha:PE X o ta)(M:PE X value tv)(hs:swapsWith value (some (.Attribute o f nJ)) pos.line X.env=pure false):PS X (.Assign [.Attribute o f nJ] value pos) (SY X.K ta tv f):=by
 intro aa s σ H D I h;refine plainObj_wpAny_Assign_Attribute (aV (M _ s σ H _ I h) λu s1 ⟨y,O,U,b,q⟩=>aV (ha _ s1 σ O _ U q) λd s2 ⟨x,H2,g,i,a,C,dx,fs,ex,j,c,n,l,q2⟩=>?_) hs;subst ex;obtain rfl:d=Value.ref a:=i;exact yN g j c n l b λm k=>⟨σ,_,k,q2⟩
end
section
variable {X:Cx}{aa:AO}{σ:St}{H:Hp}{s:Shared}{A:Around}{E:QV}{Q:QV}{c:Value}{b:Bool}
inductive TyOf (K:Frag)(H:Hp):V->Value->Prop where
 |non:TyOf K H .non (.type "NoneType")
 |bl (x:Bool):TyOf K H (.bl x) (.type "bool")
 |int (i:Int):TyOf K H (.int i) (.type "int")
 |str (x:Str):TyOf K H (.str x) (.type "str")
 |flt (x:UInt64):TyOf K H (.flt x) (.type "float")
 |lst {a:Addr}{xs:List V}(e:H a=some (.lst xs)):TyOf K H (.ref a) (.type "list")
 |frz {a:Addr}{o:Obj}{xs:List V}(e:H a=some (.frz o (.lst xs))):TyOf K H (.ref a) (.type "list")
 |tup {a:Addr}{xs:List V}(e:H a=some (.tup xs)):TyOf K H (.ref a) (.type "tuple")
 |dK {a:Addr}{ay:List (d8×V)}{ob:Obj}(e:H a=some (.dK ay ob)):TyOf K H (.ref a) (.type "dict")
 |dT {a:Addr}{ay:List (List d8×V)}(e:H a=some (.dT ay)):TyOf K H (.ref a) (.type "dict")
 |ins {a C dx:Addr}{fs:List (Str×V)}(e:H a=some (.ins C dx fs)) (cl:Cls K C) (ha:PySem.W.findIn K (.ref C) "__class__" = some (some (.builtin "object.__class__")))
   (hn:PySem.W.specialIn K (.builtin "object.__class__") "__get__" = some (some (.builtin "getset_descriptor.__get__"))) (Sg:PySem.W.takesIn K (.builtin "object.__class__")=some true)
   (hm:PySem.W.mroIn K C (.type "object")=some true):TyOf K H (.ref a) (.ref C)
def dS (I:Inv X aa σ H s)(M:aA x u)(ty:TyOf X.K H x t)(e:PySem.W.kitOne X.K t c=some b)(h:∀tk,Q (.bool b) { s with toks:=tk }):
  wpAny (model X.prog X.w) A (call (.builtin "isinstance") [u,c]) Q E s:=by
 cases ty with
 |non=>cases (show u=Value.none from M);exact kia_one PySem.W.kitx_none I.kIn True.intro e (λz=>nomatch z) h
 |bl y=>cases (show u=Value.bool y from M);exact kia_one PySem.W.kitx_bool I.kIn True.intro e (λz=>nomatch z) h
 |int i=>obtain⟨t,q⟩:=(show ∃t,u=Value.int i t from M);cases q;exact kia_one PySem.W.kitx_int I.kIn True.intro e (λz=>nomatch z) h
 |str y=>obtain⟨t,q⟩:=(show ∃t,u=Value.str y t from M);cases q;exact kia_one PySem.W.kitx_str I.kIn True.intro e (λz=>nomatch z) h
 |flt y=>obtain⟨t,q⟩:=(show ∃t,u=Value.float y t from M);cases q;exact kia_one PySem.W.kitx_float I.kIn True.intro e (λz=>nomatch z) h
 |@lst a xs U=>
  cases (show u=Value.ref a from M)
  obtain⟨v,v,n,v,h1⟩:=(show aE X.prog X.w H s.heap a (.lst xs)from I.hok a _ U);exact kia_one PySem.W.kitx_list I.kIn ⟨_,h1,r4⟩ e (λz=>nomatch z) h
 |@frz a ob xs U=>
  cases (show u=Value.ref a from M)
  obtain⟨v,v,v,n,v,h1⟩:=(show aE X.prog X.w H s.heap a (.frz ob (.lst xs))from I.hok a _ U);exact kia_one PySem.W.kitx_list I.kIn ⟨_,h1,r4⟩ e (λz=>nomatch z) h
 |@tup a xs U=>
  cases (show u=Value.ref a from M)
  refine cX λG g=>?_;obtain⟨v,v,v,p⟩:=(show aE X.prog X.w H s.heap a (.tup xs)from I.hok a _ U);obtain⟨o,h1,h2,v⟩:=p;apply g;exact kia_one PySem.W.kitx_tuple I.kIn ⟨o,h1,h2⟩ e (λz=>nomatch z) h
 |@dK a ay ob U=>
  cases (show u=Value.ref a from M)
  refine cX λG g=>?_;obtain⟨v,v,v,vs,v,p⟩:=(show aE X.prog X.w H s.heap a (.dK ay ob)from I.hok a _ U);obtain⟨o,es,d,h1,h2,v⟩:=p;apply g;exact kia_one PySem.W.kitx_dict I.kIn ⟨o,h1,h2.1⟩ e (λz=>nomatch z) h
 |@dT a ay U=>
  cases (show u=Value.ref a from M)
  refine cX λG g=>?_;obtain⟨v,v,xs,v,o,es,d,h1,h2,v⟩:=(show aE X.prog X.w H s.heap a (.dT ay)from I.hok a _ U);apply g;exact kia_one PySem.W.kitx_dict I.kIn ⟨o,h1,h2.1⟩ e (λz=>nomatch z) h
 |@ins a C dx fs U cl ha hn Sg hm=>
  cases (show u=Value.ref a from M)
  obtain⟨mA,O,v⟩:=nL I.hok U;obtain⟨od,J,v⟩:=O.look;exact kia_one (PySem.W.kitx_own (cl.get _) cl.hd ha hn Sg hm) I.kIn J e (λz=>nomatch z) h
end
structure bB (k:Nat)(A:Around):Prop where
 hd:A.handled=none
 dp:A.depth+3*k+5<recursionLimit
 un:A.units+16*k+200<cLine
def bB.mono (r:bB k A)(h:j<=k):bB j A:=⟨r.hd,by have:=r.dp;lia,by have:=r.un;lia⟩
def bB.deeper (r:bB (k+1) A)(env:Env):bB k (A.deeper env):=
 ⟨r.hd,by have:=r.dp;show A.depth+1+3*k+5<_;lia,by have:=r.un;simp<;>lia⟩
def bB.in1 (r:bB (k+1) A):bB k A.in1:=
 ⟨r.hd,by have:=r.dp;lia,by have:=r.un;lia⟩
def yO {A:Around}{C:Addr}{us:LU}{M:List (Str×Value)}:(A.under (.builtin "type.__call__" ⟨.ref C::us,M⟩)).depth=A.depth+1:=by
 rfl
def yP {A:Around}{C:Addr}{us:LU}{M:List (Str×Value)}:(A.under (.builtin "type.__call__" ⟨.ref C::us,M⟩)).units=A.units+1:=by
 rfl
def bB.make (r:bB (k+1) A)(C:Addr)(us:LU)M:bB k (A.under (.builtin "type.__call__" ⟨.ref C::us,M⟩)):=
 ⟨r.hd,by have:=r.dp;rw[yO];lia,by have:=r.un;rw[yP];lia⟩
def bB.depth (r:bB k A):A.depth<recursionLimit:=by have:=r.dp;lia
def t9:TA:=λz H Q=>Q [] H
def ky (ta:TE)(M:TA):TA:=λσ H Q=>ta σ H λx O=>M σ O λxs H2=>Q (x::xs) H2
section
variable {X:Cx}{e:Expr}{es:QD}{te:TE}{t:TA}{pos:Pos}
def aN:PA X [] t9:=λz z z z H Q I h=>Calls.spliced_nil ⟨[],H,I,.nil,h⟩
def av (ha:PE X e te)(M:PA X es t)(hs:autoParam (bE e es X.env) I9._auto_1):PA X (e::es) (ky te t):=by
 intro pos aa s σ H Q I h;rw[hs];exact Calls.spliced_cons (aV (ha _ s σ H _ I h) λu s1 ⟨x,O,U,a,b⟩=>aV (M _ _ s1 σ O _ U b) λus s2 ⟨xs,H2,c,d,q2⟩=>⟨x::xs,H2,c,.cons a d,q2⟩)
def Ta (t:TA):TE:=λσ H Q=>t σ H λxs M=>xs.length<=sizeLine/\∀p,M p=none->Q (.ref p) (upd M p (.tup xs))
def Yb (t:TA):TE:=λσ H Q=>t σ H λxs M=>xs.length<=sizeLine/\∀p,M p=none->Q (.ref p) (upd M p (.lst xs))
def tE(h:PA X es t):PE X (.Tuple es U pos) (Ta t):=by
 intro aa s σ H Q I hq;refine wpAny_Tuple_spliced (aV (h _ _ s σ H _ I hq) λus s1 ⟨xs,O,M,r,z,q⟩=>⟨by rw[<-r.length];exact z,?_⟩);refine⟨.ref _,upd O _ _,M.laid (λb u=>vZ _) (vT _) ?_,r4,q _ (M.hok.fresh (vT _))⟩;exact⟨z,us,r,⟨_,vY _ r4,r4,_,r4⟩⟩
def oM (h:PA X es t):PE X (.List es pos) (Yb t):=by
 intro aa s σ H Q I hq;refine wpAny_List_spliced (aV (h _ _ s σ H _ I hq) λus s1 ⟨xs,O,M,r,z,q⟩=>⟨by rw[<-r.length];exact z,?_⟩);refine⟨.ref _,upd O _ _,M.laid (λb u=>vZ _) (vT _) ?_,r4,q _ (M.hok.fresh (vT _))⟩;exact⟨z,us,0,r,vY _ r4⟩
end
abbrev Sp:=List V->Hp->VK->XK->Prop
abbrev K8:=List Env->Hp->Shared->XK->QV
structure Env0 (P:Program)(w:World)(K:Frag)(mg:Str->Option Value)(base:Heap)(A:Around)(outer:List Env)(s:Shared)(H:Hp):Prop where
 frames:A.frames=some outer
 mod:Mod K mg base
 bs:∀b o,base.get? b=some o->s.heap.get? b=some o/\H b=none
 bsz:base.objs.size<=s.z
 funs:s.heap.FunFrames base outer
 frf:∀b∈lI outer,H b=none
 hok:gy P w H s.heap
 bare:AllBare s.gens
inductive CE (outer:List Env)(P:Program)(w:World)(H:Hp)(s:Shared)(Q:VK)(u:Value)(s':Shared):Prop|mk v H':s'.os=s.os->AllBare s'.gens->Un (lI outer) [] H H' s.heap s'.heap->gy P w H' s'.heap->aA v u->Q v H'->CE outer P w H s Q u s'
def CR (CX:K8)(outer:List Env)(P:Program)(w:World)(H:Hp)(s:Shared)(Q:VK)(E:XK)(r:Result)(s':Shared):Prop:=
 match r with
 |.ok (.ret u)=>CE outer P w H s Q u s'
 |.ok _=>False
 |.error e=>CX outer H s E e s'
structure dI (P:Program)(w:World)(K:Frag)(mg:Str->Option Value)(base:Heap)(CX:K8)(k:Nat)(f:Addr)(fd:FuncData)(ps:List Str)(sp:Sp):Prop where
 len:∀vs H Q E,sp vs H Q E->vs.length=ps.length
 run:∀(A:Around)(outer:List Env)(s:Shared)(H:Hp)(args:Args)(us:List Value)(vs:List V)(Q:VK)(E:XK),bB k A->Env0 P w K mg base A outer s H->BindsTo s fd args (ps.zip us)->aD vs us->sp vs H Q E ->
  codeAny (model P w) A (.call (.ref f) args) (CR CX outer P w H s Q E) s
def Env0.make {P:Program}{w:World}{K:Frag}{mg:SV}{base:Heap}{A:Around}{outer:List Env}{s:Shared}{H:Hp}(e:Env0 P w K mg base A outer s H)(C:Addr)(us:LU)(M:List (Str×Value)):
  Env0 P w K mg base (A.under (.builtin "type.__call__" ⟨.ref C::us,M⟩)) outer s H:=⟨by first|exact e.frames|(simpa [pushEnvs]using e.frames),e.mod,e.bs,e.bsz,e.funs,e.frf,e.hok,e.bare⟩
section
variable {X:Cx}{aa:AO}{σ:St}{H:Hp}{s s':Shared}
def Inv.env0 (I:Inv X aa σ H s):Env0 X.prog X.w X.K X.mg X.base X.A X.stack s H:=
 ⟨I.ok.frames,I.ok.mod,I.bs,vR I.ok.bsz I.sz,I.stack,I.stkFree,I.hok,I.bare⟩
def Inv.after (I:Inv X aa σ H s)(h:CE X.stack X.prog X.w H s Q u s'):EP X aa σ Q u s':=by
 refine cX λG K=>?_;obtain⟨v,H',os,bare,un,hok,r,q⟩:=h;obtain⟨hh,g,d,t,M⟩:=s';apply K;obtain rfl:M=s.os:=os;exact⟨v,H',I.call un hok bare (λb z=>absurd z X9),r,q⟩
end
def Gg (sp:Sp)(M:List V)(E:XK)(t:TA):TE:=λσ H Q=>t σ H λvs O=>sp (vs++M) O Q E
def AB (C:Addr)(m:Str)(sp:Sp)(M:List V)(E:XK)(ta:TE)(t:TA):TE:=λσ H Q=>ta σ H λx O=>∃a dx fs,x=.ref a/\O a=some (.ins C dx fs)/\fs.lookup m=none /\
 t σ O λvs H2=>sp (x::(vs++M)) H2 Q E
def ND (C:Addr)(sp:Sp)(M:List V)(E:XK)(t:TA):TE:=λσ H Q=>t σ H λvs O=>∀x dx,O x=none->O dx=none->dx≠x ->
 sp (.ref x::(vs++M)) (upd (upd O dx (.own x)) x (.ins C dx [])) (λv H2=>v=.non/\Q (.ref x) H2) E
def cL (K:Frag)(fd:FuncData)(ps:LS)(ds:LU):Prop:=
 ∀(s:Shared)(us:LU),K.In s.heap->(us++ds).length=ps.length->BindsTo s fd ⟨us,[]⟩ (ps.zip (us++ds))
def cL.all {K:Frag}(h:∀us:LU,us.length=ps.length->bindArgs fd ⟨us,[]⟩=pure (ps.zip us)):cL K fd ps []:=λs us z hl=>by
 rw[uR]at hl |-;exact .of_eq (h us hl)
def dq (CX:K8)(X:Cx)(E:XK):Prop:=∀(aa:AO)(σ:St)(H:Hp)(s:Shared)(e:Value)(s':Shared),Inv X aa σ H s->CX X.stack H s E e s'->X.xe e s'
section
variable {X:Cx}{CX:K8}{k:Nat}{f C:Addr}{fd:FuncData}{ps:LS}{sp:Sp}{DR:List V}{ds:LU}{E:XK}{x m:Str}{p pos aW:Pos}{e o:Expr}{es:QD}{ta:TE}{t:TA}
def yQ(F:dI X.prog X.w X.K X.mg X.base CX k f fd ps sp)(O:bB k X.A)(hb:cL X.K fd ps ds)(hd:aD DR ds)(hx:dq CX X E)
  (I:Inv X aa σ H s) (r:aD vs us) (h:sp (vs++DR) H Q E):wq X (call (.ref f) us) (EP X aa σ Q) X.xe s:=by
 have M:=r.append hd;refine wpAny_call (codeAny_mono (F.run _ _ s H _ _ _ Q E O I.env0 (hb s us I.kIn (by rw[<-M.length];exact F.len _ _ _ _ h)) M h) λr s' hq=>?_);cases r with
 |error e=>exact hx _ σ H s e s' I hq
 |ok fl=>
  cases fl with
  |ret u=>exact I.after hq
  |next=>exact False.elim hq
  |brk=>exact False.elim hq
  |cont=>exact False.elim hq
def fw (F:dI X.prog X.w X.K X.mg X.base CX k f fd ps sp)(U:bB k X.A)(a:Gl X x)(hm:X.mg x=some (.ref f))(hk:PySem.W.keepIn X.K (.ref f)=true)(hb:cL X.K fd ps ds)(hd:aD DR ds)(hx:dq CX X E)
  (ha:PA X (e::es) t) (M:autoParam (aS x) Z9._auto_1) (he:autoParam (bE e es X.env) I9._auto_1) (hpl:autoParam (dL pos es X.env) I9._auto_1):
  PE X (.Call (.Name x p) (e::es) [] pos) (Gg sp DR E t):=by
 intro aa s σ H Q I h;refine wpAny_Call_Name_kw (fq I a hm ?_ M);exact PySem.W.callWith_K I.ok.mod.kin hk (aV (ha _ _ s σ H _ I h) λus s1 ⟨vs,b,O,r,q⟩=>⟨O.kIn,yQ F U hb hd hx O r q⟩) he hpl
def Gh (F:dI X.prog X.w X.K X.mg X.base CX k f fd ps sp)(O:bB k X.A)(U:Gl X x)(hm:X.mg x=some (.ref f))(hk:PySem.W.keepIn X.K (.ref f)=true)(hb:cL X.K fd ps ds)(hd:aD DR ds)(hx:dq CX X E)
  (M:autoParam (aS x) Z9._auto_1):PE X (.Call (.Name x p) [] [] pos) (Gg sp DR E t9):=by
 intro aa s σ H Q I h;exact wpAny_Call_Name_kw (fq I U hm (PySem.W.callWith_K0 I.kIn hk (yQ F O hb hd hx I .nil h)) M)
def jd (he:PE X o ta)(c:Cls X.K C)(hm:qY X.K C m f)(F:dI X.prog X.w X.K X.mg X.base CX k f fd ps sp)(b:bB k X.A)(hb:cL X.K fd ps ds)(hd:aD DR ds)(hx:dq CX X E)(ha:PA X (e::es) t)
  (M:autoParam (bE e es X.env) I9._auto_1) (hpl:autoParam (dL pos es X.env) I9._auto_1)
  (d:autoParam (eval (.Call (.Attribute o m aW) (e::es) [] pos) X.env=(do
   let ov <-eval o X.env
   standAt aW.atName
   let (f,first) <-holding [ov] (getMethod ov m pl)
   callWith pos f first (backTo pos (starEach (e::es) X.env)) (backToKw pos (keywordEach [] X.env)))) I9._auto_1):
  PE X (.Call (.Attribute o m aW) (e::es) [] pos) (AB C m sp DR E ta t):=by
 intro aa s σ H Q I h;refine PySem.W.methodCall_KW (aV (he _ s σ H _ I h) λu s1 ⟨x,g,O,i,a,dx,fs,ex,j,l,q⟩=>?_) d;subst ex;obtain rfl:u=Value.ref a:=i;refine jG O j c hm l ?_;refine PySem.W.callWith_K I.ok.mod.kin hm.kp (aV (ha _ _ s1 σ g _ O q) λus s2 ⟨vs,H2,U,r,q2⟩=>⟨U.kIn,?_⟩) M hpl;exact yQ (vs:=.ref a::vs) F b hb hd hx U (.cons r4 r) q2
structure Mk (K:Frag)(C f:Addr):Prop where
 makes:PySem.W.makesIn K C=true
 init:PySem.W.findIn K (.ref C) "__init__" = some (some (.ref f))
 fn:PySem.W.isFn K (.ref f)=true
 kp:PySem.W.keepIn K (.ref C)=true
def Gi (M:Mk X.K C f)(F:dI X.prog X.w X.K X.mg X.base CX k f fd ps sp)(b:bB (k+1) X.A)(hb:cL X.K fd ps ds)(hd:aD DR ds)
  (hx:dq CX X E) (I:Inv X aa σ H s) (r:aD vs us)
  (h:∀x dx,H x=none->H dx=none->dx≠x->sp (.ref x::(vs++DR)) (upd (upd H dx (.own x)) x (.ins C dx [])) (λv H2=>v=.non/\Q (.ref x) H2) E):
  wq X (call (.ref C) us) (EP X aa σ Q) X.xe s:=by
 have hq:=h _ _ (I.hok.fresh (le_succ _)) (I.hok.fresh (vT _)) (vS (lt_succ_self _));have U:=Inv.made (C:=C) I;have a:aD (V.ref (s.z+1)::(vs++DR)) _:=.cons r4 (r.append hd);have hl:=by
  have e:=a.length;rw[F.len _ _ _ _ hq]at e;exact e.symm
 refine wpAny_call (Gf I.kIn M.makes M.init (beq_iff_eq.mp M.fn) (codeAny_mono (F.run _ _ _ _ _ _ _ _ E (b.make C us [])
  (U.env0.make C us []) (hb _ _ U.kIn hl) a hq) λr s' O=>?_))
 cases r with
 |error e=>exact hx _ σ _ _ e s' U O
 |ok fl=>
  cases fl with
  |ret u=>
   obtain⟨v,H',c,d,ev,g⟩:=U.after O;subst ev;exact⟨d,⟨V.ref _,H',c,r4,g⟩⟩
  |next=>exact False.elim O
  |brk=>exact False.elim O
  |cont=>exact False.elim O
def tG (M:Mk X.K C f)(F:dI X.prog X.w X.K X.mg X.base CX k f fd ps sp)(a:bB (k+1) X.A)(b:Gl X x)(hm:X.mg x=some (.ref C))(hb:cL X.K fd ps ds)(hd:aD DR ds)(hx:dq CX X E)
  (ha:PA X (e::es) t) (O:autoParam (aS x) Z9._auto_1) (he:autoParam (bE e es X.env) I9._auto_1) (hpl:autoParam (dL pos es X.env) I9._auto_1):
  PE X (.Call (.Name x p) (e::es) [] pos) (ND C sp DR E t):=by
 intro aa s σ H Q I h;refine wpAny_Call_Name_kw (fq I b hm ?_ O);refine PySem.W.callWith_K I.ok.mod.kin M.kp (aV (ha _ _ s σ H _ I h) λus s1 ⟨vs,c,U,r,q⟩=>⟨U.kIn,?_⟩) he hpl;exact Gi M F a hb hd hx U r q
end
structure FnScope (N P:List Str)(sc:Scope):Prop where
 kind:sc.kind=.function
 co:sc.isCoroutine=false
 gen:sc.isGenerator=false
 nd:N.Nodup
 pre:N.take P.length=P
 par:∀x∈P,sc.names.lookup x=some .local\/sc.names.lookup x=some .cell
 nofree:∀y∈sc.names,y.2≠.free
theorem rg {kindOf:Str->Option NameKind}:∀ {binds:List (Str×Value)}{m:SV},(∀v,(x,v)∉binds)->bindL kindOf binds m x=m x
 |[],_,_=>r4
 | (n,v)::r,m,h=>by
  unfold bindL;rw[rg λw hw=>h w (mZ _ hw)];split
  .grind
  .rfl
theorem rh {kindOf:Str->Option NameKind}:∀ {binds:List (Str×Value)}{m:SV},(∀v,(x,v)∉binds)->bindC kindOf binds m x=m x
 |[],_,_=>r4
 | (n,v)::r,m,h=>by
  unfold bindC;rw[rh λw hw=>h w (mZ _ hw)];split
  .rfl
  grind
theorem ri {kindOf:Str->Option NameKind}{x:Str}{v:Value}:∀ {P:LS}{vs:LU}{i:Nat}{m:SV},P.Nodup->P[i]? = some x->vs[i]? = some v->kindOf x=some .local ->
  bindL kindOf (P.zip vs) m x=some v
 |[],_,_,_,_,h,_,_=>by simp at h
 |_::_,[],_,_,_,_,h,_=>by simp at h
 |p::P,w::vs,0,m,nd,h1,h2,hk=>by
  simp at h1 h2;subst h1 h2;show bindL _ ((p,w)::P.zip vs) m p=_;unfold bindL;rw[rg λv M=>(nodup_cons.mp nd).1 (of_mem_zip M).1,if_pos hk];simp
 |p::P,w::vs,i+1,m,nd,h1,h2,hk=>by
  unfold bindL;exact ri (nodup_cons.mp nd).2 (by simpa using h1) (by simpa using h2) hk
theorem rj {kindOf:Str->Option NameKind}{x:Str}{v:Value}:∀ {P:LS}{vs:LU}{i:Nat}{m:SV},P.Nodup->P[i]? = some x->vs[i]? = some v->kindOf x≠some .local ->
  bindC kindOf (P.zip vs) m x=some v
 |[],_,_,_,_,h,_,_=>by simp at h
 |_::_,[],_,_,_,_,h,_=>by simp at h
 |p::P,w::vs,0,m,nd,h1,h2,hk=>by
  simp at h1 h2;subst h1 h2;show bindC _ ((p,w)::P.zip vs) m p=_;unfold bindC;rw[rh λv M=>(nodup_cons.mp nd).1 (of_mem_zip M).1,if_neg hk];simp
 |p::P,w::vs,i+1,m,nd,h1,h2,hk=>by
  unfold bindC;exact rj (nodup_cons.mp nd).2 (by simpa using h1) (by simpa using h2) hk
noncomputable def dD (N:LS)(vs:List V):St:=vs.map some++List.replicate (N.length - vs.length) none
noncomputable def bK (CX:K8)(P:Program)(w:World)(K:Frag)(mg:SV)(base:Heap)(N:LS)(qual:Str)(scope:Scope)(f:Addr)(O:Value)(A:Around)(outer:List Env)(s:Shared)(H:Hp)(E:XK):Cx where
 prog:=P
 w:=w
 K:=K
 mg:=mg
 base:=base
 A:=A.deeper (envOfC qual scope s.z f O)
 N:=N
 s₀:=s
 H₀:=H
 env:=envOfC qual scope s.z f O
 outer:=outer
 stack:=envOfC qual scope s.z f O::outer
 ex:=[]
 calm:=true
 fn:=λy=>true
 pn:=[]
 xe:=λe s'=>wpAny (model P w) (A.deeper (envOfC qual scope s.z f O)) (leaving (envOfC qual scope s.z f O) e) (λy M=>CX outer H s E e M) (λU M=>CX outer H s E U M) s'
def oN {sc:Scope}(h:sc.names.lookup x=some .cell):∃c,(cellsFrom n sc.names []).lookup x=some c:=by
 exact uV (PySem.W.cellsFrom_some _ n [] (.inl h))
def Ej {CX:K8}{P:Program}{w:World}{K:Frag}{mg:SV}{base:Heap}{N ps:LS}{qual:Str}{scope:Scope}{f:Addr}{a:Value}{A:Around}{outer:List Env}{s s1:Shared}{H:Hp}{E:XK}{us:LU}{vs:List V}
  (S:FnScope N ps scope) (hd:A.handled=none) (M:Env0 P w K mg base A outer s H) (hl:vs.length=ps.length) (r:aD vs us)
  (x:InCallC s s.z (bindL (envOfC qual scope s.z f a).kindOf (ps.zip us) λt=>none) (cellsFrom (s.z+1) scope.names []) (bindC (envOfC qual scope s.z f a).kindOf (ps.zip us) λt=>none) s1):
  Inv (bK CX P w K mg base N qual scope f a A outer s H E) [] (dD N vs) H s1:=by
 have hpl:ps.length<=N.length:=by have:=congrArg List.length S.pre;grind
 obtain⟨h1,tk,rfl,hk⟩:=x.done;have O:∀b:Addr,b∉(bK CX P w K mg base N qual scope f a A outer s H E).ex:=λb z=>absurd (show b∈([]:List Addr)from z) X9;refine⟨⟨M.mod,S.kind,r4,r4,vT _,λy z c h1 h2=>?_,λy hy=>?_,λy c t h=>?_,λt=>hd,Around.frames_deeper M.frames,.inr ⟨r4,r4⟩,λb z=>absurd z (O b),M.bs,M.bsz,λb t t=>O b,λb z=>absurd z (O b),M.funs,M.frf⟩,
  r4,M.bare,Un.kept hk,⟨_,x.toInCall.ns,λi y v h1 h2 h3=>?_⟩,λy c h=>⟨_,x.cell y c h⟩,M.hok.fresh (vT _),λy c h=>?_,λp hp=>absurd (show p∈([]:AO)from hp) X9,M.hok.kept hk,?_⟩
 .exact name_of_addr x.apart (PySem.mem_of_lookup h1) (PySem.mem_of_lookup h2)
 .rcases hy with hy|hy
  .exact oN hy
  .exact absurd r4 (S.nofree _ (PySem.mem_of_lookup hy))
 .exact le_of_lt (x.above y c (PySem.mem_of_lookup h))
 .have hi:i<vs.length:=by
   unfold dD at h2;by_cases hi:i<vs.length
   .exact hi
   .rw[List.getElem?_append_right (by simpa using hi)]at h2;rw[List.getElem?_replicate]at h2;split at h2<;>cases h2
  have ha:vs[i]? = some v:=by
   simp_all[dD,getElem?_append_left]
  obtain⟨u,hu,d⟩:=r.get ha;have hp:ps[i]? = some y:=by
   rw[<-S.pre,List.getElem?_take_of_lt N9];exact h1
  have U:ps.Nodup:=by rw[<-S.pre];exact S.nd.sublist (List.take_sublist _ _)
  refine⟨u,d,?_⟩;rcases S.par y (mem_of_getElem? hp)with k|k
  .exact .inl ⟨k,ri U hp hu k⟩
  .obtain⟨c,e⟩:=oN (n:=s.z+1) k;refine .inr ⟨.inl k,c,e,?_⟩;have q:=x.cell y c e;rw[rj U hp hu (by show scope.names.lookup y≠_;rw[k];decide)]at q;exact q
 .exact M.hok.fresh (le_of_lt (x.above y c (PySem.mem_of_lookup h)))
 .unfold dD;show _=N.length;simp_all
def m7 {CX:K8}{P:Program}{w:World}{K:Frag}{mg:SV}{base:Heap}{k:Nat}{f:Addr}{name qual:Str}{params:Arguments}{M:List Stmt}{scope:Scope}{h kV doc pm bD ct oc:Value}{an od:Option Addr}
  {gZ:Array (Option Value)}{N ps:LS}{sp:Sp}(lk:K.lookup f=some ⟨oc,od,.func (fnOf name qual params M scope h kV doc pm an bD ct),gZ⟩) (l:PySem.W.codeIn K bD qual=true) (S:FnScope N ps scope)
  (len:∀vs H Q E,sp vs H Q E->vs.length=ps.length)
  (U:∀(A:Around)(outer:List Env)(s:Shared)(H:Hp)(vs:List V)(Q:VK)(E:XK),bB k (A.deeper (envOfC qual scope s.z f bD))->sp vs H Q E ->
   ∃t,kj (bK CX P w K mg base N qual scope f bD A outer s H E) M t/\t { nx:=λy H'=>Q .non H',rt:=Q } (dD N vs) H):
  dI P w K mg base CX (k+1) f (fnOf name qual params M scope h kV doc pm an bD ct) ps sp:=by
 refine⟨len,λA outer s H args us vs Q E c a hb r i=>?_⟩;have hl:=len _ _ _ _ i;have j:=a.mod.kin.keeps λb o e=>(a.bs b o e).1;have d:=a.mod.nolimit.keeps λb o e=>(a.bs b o e).1;refine codeAny_call_function c.depth (j _ _ lk) r4 S.co S.gen r4 (PySem.W.codeRec_of j l) (hb _ _ _ _ ?_);refine wpAny_newFunctionEnv_cells S.kind (λ⟨n,v⟩ hy=>by
  rcases S.par n (of_mem_zip hy).1 with q|q
  .exact .inl q
  .exact .inr ⟨q,PySem.W.cellsFrom_some _ _ _ (.inl q)⟩) λenv he s1 x=>?_;subst he;refine⟨d.keeps x.toInCall.keep,codeAny_func ?_⟩;obtain⟨t,p,hq⟩:=U A outer s H vs Q E (c.deeper _) i;refine wpAny_mono (p [] s1 _ H _ (Ej S c.hd a hl r x) hq) (λfl s' hs=>?_) λe s' hs=>hs;have dZ:∀ {O:St}{H':Hp}{v:V}{u:Value},Inv (bK CX P w K mg base N qual scope f bD A outer s H E) [] O H' s'->aA v u->Q v H'->CE outer P w H s Q u s':=
  λ{O H' v u} J g q=>⟨v,H',J.os,J.bare,J.base,J.hok,g,q⟩
 cases fl with
 |ret u=>
  obtain⟨v,O,H',J,g,q⟩:=hs;exact dZ J g q
 |next=>
  obtain⟨O,H',J,q⟩:=hs;exact dZ (v:=V.non) J r4 q
 |brk=>
  obtain⟨y,y,y,q⟩:=hs;simp_all
 |cont=>
  obtain⟨y,y,y,q⟩:=hs;simp_all
section
variable {X:Cx}{x:Str}{p pos:Pos}{e:Expr}{es:QD}{t:TA}{id T:String}{r:List V->Hp->VK->Prop}
def tCB (r:List V->Hp->VK->Prop)(t:TA):TE:=λσ H Q=>t σ H λvs M=>r vs M Q
def hV (hc:aY X (.builtin id) r)(O:Gl X x)(hm:X.mg x=none)(U:bootBuiltins x=some (.builtin id))(ha:PA X (e::es) t)(hn:autoParam (x ≠ "__name__") Z9._auto_1)(M:autoParam (aS x) Z9._auto_1)
  (he:autoParam (bE e es X.env) I9._auto_1) (hpl:autoParam (dL pos es X.env) I9._auto_1):PE X (.Call (.Name x p) (e::es) [] pos) (tCB r t):=by
 intro aa s σ H Q I h;exact wpAny_Call_Name_kw (dn I O hm U (PyProof.Rows.callWith_builtin1 (aV (ha _ _ s σ H _ I h) λus s1 ⟨vs,a,b,c,d⟩=>hc _ s1 σ a vs us Q b c d) he hpl) hn M)
def lN (hc:aY X (.type T) r)(O:Gl X x)(hm:X.mg x=none)(U:bootBuiltins x=some (.type T))(ha:PA X (e::es) t)(hn:autoParam (x ≠ "__name__") Z9._auto_1)(M:autoParam (aS x) Z9._auto_1)
  (he:autoParam (bE e es X.env) I9._auto_1) (hpl:autoParam (dL pos es X.env) I9._auto_1):PE X (.Call (.Name x p) (e::es) [] pos) (tCB r t):=by
 intro aa s σ H Q I h;exact wpAny_Call_Name_kw (dn I O hm U (PyProof.Rows.callWith_type1 (aV (ha _ _ s σ H _ I h) λus s1 ⟨vs,a,b,c,d⟩=>hc _ s1 σ a vs us Q b c d) he hpl) hn M)
end
end L2
namespace HT
open PySem PyProof.Rows
section
open PySem.SeqAt
open PySem.AutoSeq1 (wpAny_loadPart')
open PySem.MeetsSeq PySem.MeetsSeq2 PySem.MeetsSeq3
end
section
variable {prog:Program}{w:World}{A:Around}{E:QV}{s:Shared}
def K9 (g:IsTup s.heap t vs.toArray)(hb:IsTup s.heap b ws.toArray)(d:vs≠[])
  (h1:ws=[]->Q (.ref t) s) (h2:ws≠[]->Q (.ref s.z) { s with heap:=s.heap.push { cls:=.type "tuple",data:=.seq (vs++ws).toArray } })
  (hsz:vs.length+ws.length<=sizeLine):wpAny (model prog w) A (binaryOp .Add (.ref t) (.ref b)) Q E s:=by
 refine cX λG K=>?_;obtain⟨⟨cls,dd,data,sl⟩,c,hc,n,hd⟩:=id g;obtain⟨⟨h,O,data2,U⟩,M,f,n2,a⟩:=id hb;apply K;clear K;subst hc hd f a;have e:vs.toArray++ws.toArray=(vs++ws).toArray:=X9
 by_cases hw:ws=[]
 .exact concat_meets ⟨_,c,r4⟩ ⟨_,M,r4⟩ noFill_tuple_add seq_tuple_add slot_tuple_add PySem.F.entry_tuple_add (PySem.F.args_tuple_add_2 _ _)
   (tuple_addW1 t b vs.toArray ws.toArray n n2 dd O sl U (by simpa using d) (by simp[hw])) ⟨c,M,h1 hw⟩
 .refine concat_meets ⟨_,c,r4⟩ ⟨_,M,r4⟩ noFill_tuple_add seq_tuple_add slot_tuple_add PySem.F.entry_tuple_add (PySem.F.args_tuple_add_2 _ _)
   (tuple_addW2 t b vs.toArray ws.toArray n n2 dd O sl U (by simpa using d) (by simpa using hw) (by simp_all)) ⟨c,M,?_⟩
  rw[e];exact h2 hw
noncomputable def cH (n d:Nat):OI->Nat
 |none=>d
 |some v=>if v<0 then (v+(n:Int)).toNat else min v.toNat n
def Pp n d(hd:d<=n)o:cH n d o<=n:=by
 cases o with
 |none=>exact hd
 |some v=>
  show(if v<0 then (v+n).toNat else min _ n)<=n;by_cases M:v<0
  .rw[if_pos M];lia
  .rw[if_neg M];exact Nat.min_le_right _ _
def AD v(n d:Nat):(if v<0 then max (v+(n:Int)) 0 else min v n)=(cH n d (some v):Nat):=by
 show(if v<0 then max _ 0 else min v n)=(((if v<0 then (v+n).toNat else min _ n):Nat):Int);grind
def yR lo hi(n:Nat):Builtin.Slice.sliceAdjust lo hi 1 n=((cH n 0 lo:Int),(cH n n hi:Int)):=by
 unfold Builtin.Slice.sliceAdjust;simp only[N9];refine Prod.ext ?_ ?_
 .cases lo with
  |none=>rfl
  |some v=>exact AD v n 0
 .cases hi with
  |none=>rfl
  |some v=>exact AD v n n
def yS (i j:Nat):Builtin.Slice.slicePlaces i j 1=j - i:=by
 unfold Builtin.Slice.slicePlaces;simp<;>lia
def oP (p:IsPart v o)(h:Q o s):wpAny (model prog w) A (Builtin.Slice.slicePartIndex v) Q E s:=by
 cases p with
 |none=>exact slicePart_none h
 |int i t=>exact slicePart_int h
def fY {sl:Addr}{vl U:Value}{lo hi:OI}{n:Nat}{Q:Int×Int×Nat->Shared->Prop}(hs:s.heap.IsSliceOf sl vl U .none)(pl:IsPart vl lo)(a:IsPart U hi)
  (h:Q (((cH n 0 lo:Nat):Int),1,cH n n hi - cH n 0 lo) s):wpAny (model prog w) A (Builtin.Slice.sliceApplied (.ref sl) (pure (n:Int))) Q E s:=by
 obtain⟨os,M,b,O⟩:=id hs;refine wX (wX (wpAny_field M O (x:=vl) r4 (wX (wpAny_field M O (x:=U) r4 (wX (wpAny_field M O  r4 (wY ?_)))))));refine wX (slicePart_none ?_);refine wX (oP pl (wX (oP a (wX (wY ?_)))));show wpAny _ _ (match Builtin.Slice.sliceAdjust lo hi 1 (n:Int) with|(lo,hi)=>pure (lo,(1:Int),Builtin.Slice.slicePlaces lo hi 1)) _ _ s;rw[yR lo hi n];show wpAny _ _ (pure _) _ _ s;rw[yS];exact wY h
def Gj (xs:AV)(i k:Nat):((List.range k).filterMap λ(m:Nat)=>xs[(i+(m:Int)*1).toNat]?).toArray=((xs.toList.drop i).take k).toArray:=by
 have e:(λ(m:Nat)=>xs[(i+(m:Int)*1).toNat]?)=λm=>xs[i+m]?:=by
  funext m;have:(i+(m:Int)*1).toNat=i+m:=N9
  rw[this]
 have:=pick_run xs i k;have e2:((λx=>xs[x]?) ∘ λx=>i+x)=λm=>xs[i+m]?:=r4;simp_all
def k6 {t sl:Addr}{items:AV}{vl d:Value}{lo hi:OI}{Q:QV}(O:IsTup s.heap t items)(hs:s.heap.IsSliceOf sl vl d .none)(pl:IsPart vl lo)(e:IsPart d hi)
  (hw:¬(cH items.size 0 lo=0/\cH items.size items.size hi=items.size))
  (h:Q (.ref s.z) { s with heap:=s.heap.push { cls:=.type "tuple",data:=.seq ((items.toList.drop (cH items.size 0 lo)).take (cH items.size items.size hi - cH items.size 0 lo)).toArray } })
  (hsz:items.size<=sizeLine):wpAny (model prog w) A (getItem (.ref t) (.ref sl)) Q E s:=by
 have M:sizeOk (.seq ((items.toList.drop (cH items.size 0 lo)).take (cH items.size items.size hi - cH items.size 0 lo)).toArray):=by
  exact Nat.le_trans (((items.toList.drop _).take_sublist _).trans (items.toList.drop_sublist _)).length_le hsz
 have hj:cH items.size items.size hi<=items.size:=Pp _ _ (vT _) hi
 obtain⟨os,U,a,f⟩:=id hs
 have b:s.TypeIs (.ref sl) "slice":=⟨os,U,a⟩
 unfold getItem
 try with_reducible refine wpAny_holding ?_
 first|refine wX (wY ?_)|skip
 refine wX (wpAny_sequenceKey O.typeIs Z9 ?_)
 refine wX (wpAny_callSpecial?_slot (name:=Str.ofString "__getitem__") O.typeIs PyProof.Rows.slot_tuple_getitem
  (wpAny_call_entry PyProof.Rows.slot_tuple_getitem O.typeIs entry_tuple_getitem ?_ (args_tuple_getitem _ _)))
 show wpAny _ _ (Builtin.Tuple.tupleItemsOf (.ref t)>>=_) _ _ s
 refine wX (tupleItemsOf_ O ?_)
 refine wX (wpAny_typeOf b ?_)
 rw[if_pos Z9]
 refine wX (fY hs pl e ?_)
 show wpAny _ _ (if(((cH items.size 0 lo:Nat):Int) == 0 && (1:Int) == 1 && (cH items.size items.size hi - cH items.size 0 lo) == items.size)=true then _ else _) _ _ s
 rw[if_neg (by
  simp_all),Gj]
 first
  |exact wX (m:=Builtin.Tuple.tupleExact _) (wpAny_newObj_type (wY ⟨_,r4,wY h⟩) M)
  |exact wX (m:=Builtin.Tuple.tupleExact _) (wpAny_newObj_type (wX (wY (wY ⟨_,r4,wY h⟩))) M)
  |exact wX (wX (m:=Builtin.Tuple.tupleExact _) (wpAny_newObj_type (wY (wY ⟨_,r4,wY h⟩)) M))
  |exact wX (wX (m:=Builtin.Tuple.tupleExact _) (wpAny_newObj_type (wY ⟨_,r4,wY h⟩) M))
end
end HT
namespace L2
open PySem PySem.Spec PyProof.Rows
abbrev TO:=St->Hp->(OI->Hp->Prop)->Prop
def PO (X:Cx)(e:Option Expr)(t:TO):Prop:=
 ∀(aa:AO)(s:Shared)(σ:St)(H:Hp)(Q:OI->Hp->Prop),Inv X aa σ H s->t σ H Q ->
  wq X (evalPart e X.env) (λu s'=>∃o H',Inv X aa σ H' s'/\IsPart u o/\Q o H') X.xe s
def KA:TO:=λz H Q=>Q none H
def Tc (t:TE):TO:=λσ H Q=>t σ H λx M=>∃i,x=.int i/\Q (some i) M
section
variable {X:Cx}{e:Expr}{te:TE}{lo hi:Option Expr}{tl th:TO}{pos p2:Pos}
def KG:PO X none KA:=by
 intro aa s σ H Q I h;exact wY ⟨none,H,I,.none,h⟩
def KH (h:PE X e te):PO X (some e) (Tc te):=by
 intro aa s σ H Q I hw;refine aV (h aa s σ H _ I hw) λu s1 ⟨x,M,O,U,a⟩=>?_;obtain⟨i,rfl,q⟩:=a;obtain⟨t,rfl⟩:=U;exact⟨some i,M,O,.int i t,q⟩
def FI (X:Cx)(r:V->OI->OI->Hp->VK->Prop):Prop:=
 ∀(aa:AO)(s:Shared)(σ:St)(H:Hp)(x:V)(v vl M:Value)(lo hi:OI)(sl:Addr)(Q:VK),Inv X aa σ H s->aA x v->s.heap.IsSliceOf sl vl M .none->IsPart vl lo->IsPart M hi->r x lo hi H Q ->
  ∃T id,typeLookup (.type T) "__getitem__" = pure (some (.builtin id))/\s.TypeIs v T/\wq X (getItem v (.ref sl)) (EP X aa σ Q) X.xe s
def FI.or (h:FI X r)(h':FI X r'):FI X (λx lo hi H Q=>r x lo hi H Q\/r' x lo hi H Q):=by
 intro aa s σ H x v vl M lo hi sl Q I O hs pl U q;rcases q with q|q
 .exact h aa s σ H x v vl M lo hi sl Q I O hs pl U q
 .exact h' aa s σ H x v vl M lo hi sl Q I O hs pl U q
def tSl (r:V->OI->OI->Hp->VK->Prop)(te:TE)(tl th:TO):TE:=λσ H Q=>te σ H λx M=>tl σ M λl H2=>th σ H2 λu O=>r x l u O Q
def Gk (a:FI X r)(he:PE X e te)(hl:PO X lo tl)(hu:PO X hi th):PE X (.Subscript e (.Slice lo hi none p2) pos) (tSl r te tl th):=by
 intro aa s σ H Q I h;refine Subscript_ (aV (he aa s σ H _ I h) λv s1 ⟨x,c,d,f,g⟩=>wpAny_Slice (aV (hl aa s1 σ c _ d g) λvl s2 ⟨l,H2,i,pl,q2⟩=>aV (hu aa s2 σ H2 _ i q2) λO M ⟨u,U,j,k,m⟩=>?_));refine wY ?_;obtain⟨T,id,o,p,t⟩:=a aa _ σ U x v vl O l u _ Q (j.kept (t':=M.toks) λb ob q=>vZ _ q) f (Heap.IsSliceOf.new ..) pl k m;exact tail_any  p o t (by with_unfolding_all rfl)
def qK (xs:List V)(lo hi:OI):List V:=(xs.drop (HT.cH xs.length 0 lo)).take (HT.cH xs.length xs.length hi - HT.cH xs.length 0 lo)
def m8 xs lo hi:(qK xs lo hi).length<=xs.length:=by
 unfold qK;rw[length_take,List.length_drop];lia
def Yc (K:Frag):V->OI->OI->Hp->VK->Prop:=λx lo hi H Q=>∃a xs,x=.ref a/\dM K H a xs /\
 ¬(HT.cH xs.length 0 lo=0/\HT.cH xs.length xs.length hi=xs.length)/\∀p,H p=none->Q (.ref p) (upd H p (.tup (qK xs lo hi)))
def Pq:FI X (Yc X.K):=by
 intro aa s σ H x v vl d lo hi sl Q I U hs pl c h;obtain⟨a,xs,rfl,hx,hw,q⟩:=h;cases U
 refine I.tupE hx λits r O hz=>?_;have M:its.toArray.size=xs.length:=by exact r.length.symm
 refine⟨"tuple",_,PyProof.Rows.slot_tuple_getitem.lookup,O.typeIs,HT.k6 O hs pl c (by rw[M];exact hw) ?_ (by rw[M];exact hz)⟩;rw[M];refine⟨.ref _,_,I.laid   (λb ob=>vZ _) (vT _) ?_,r4,q _ (I.hok.fresh (vT _))⟩;exact⟨vR (m8 xs lo hi) hz,_,(r.drop _).take _,IsTup.new _ _⟩
inductive DU (K:Frag)(x y:V)(H:Hp)(Q:VK):Prop|mk a b xs ys:x=.ref a->y=.ref b->dM K H a xs->dM K H b ys->xs≠[]->xs.length+ys.length<=sizeLine->(ys=[]->Q (.ref a) H)->(ys≠[]->∀p,H p=none->Q (.ref p) (upd H p (.tup (xs++ys))))->DU K x y H Q
def Td (K:Frag):R2:=λx y H Q=>DU K x y H Q
def aD.nil_iff (r:aD xs us):us=[]↔xs=[]:=by
 cases r with
 |nil=>simp
 |cons _ _=>simp
def KI:bT X (binaryOp .Add) (Td X.K):=by
 intro aa s σ H x y v u Q I c d h;obtain⟨a,b,xs,ys,rfl,rfl,ha,hb,hx,hz,f,q2⟩:=h;cases c
 cases d
 refine I.tupE ha λits O g t=>I.tupE hb λU M p2 t=>?_;refine HT.K9 g p2 (λz=>hx (O.nil_iff.mp z)) (λz=>⟨.ref a,H,I,r4,f (M.nil_iff.mp z)⟩) (λz=>?_) (by rw[<-O.length,<-M.length];exact hz);refine⟨.ref _,_,I.laid   (λb ob=>vZ _) (vT _) ?_,r4,q2 (λw=>z (M.nil_iff.mpr w)) _ (I.hok.fresh (vT _))⟩;exact⟨by rw[vA];exact hz,_,O.append M,IsTup.new _ _⟩
end
noncomputable def NE (n:Nat)(i:Int):Option Nat:=if 0<=i then (if i<n then some i.toNat else none)else if -(n:Int)<=i then some (i+n).toNat else none
def qL {α:Type}(xs:List α)(i:Int):Option α:=(NE xs.length i).bind λj=>xs[j]?
def KJ (h:NE n i=some j):seqIndex? i n=some j/\j<n/\-n<=i/\i<n:=by
 unfold NE at h;by_cases h0:0<=i
 .rw[if_pos h0]at h;by_cases h1:i<n
  .rw[if_pos h1]at h;exact⟨by rw[seqIndex_of h0 h1,vK h],N9,N9,h1⟩
  simp_all
 .rw[if_neg h0]at h;by_cases h1 : -n<=i
  .rw[if_pos h1]at h;exact⟨by rw[seqIndex_neg N9 h1,vK h],N9,h1,N9⟩
  simp_all
def tH {α:Type}{xs:List α}{i:Int}{v:α}(h:qL xs i=some v):∃j,seqIndex? i xs.length=some j/\xs[j]? = some v/\j<xs.length/\-xs.length<=i/\i<xs.length:=by
 unfold qL at h;cases e:NE _ i with
 |none=>rw[e]at h;cases h
 |some j=>
  rw[e]at h;obtain⟨h1,h2,h3,h4⟩:=KJ e;exact⟨j,h1,h,h2,h3,h4⟩
def KL {α:Type}{xs:List α}{j:Nat}{v:α}(h:xs[j]? = some v):qL xs j=some v:=by
 have hj:=(vV h).1;simp_all[NE,qL]
def k7 (b:Expr):Prop:=∀o i,subscripted b false o i=operate [o,i] (getItem o i)
def Pr (X:Cx)(r:R2):Prop:=
 ∀(O M:Expr)(aa:AO)(s:Shared)(σ:St)(H:Hp)(x y:V)(v u:Value)(Q:VK),Inv X aa σ H s->aA x v->aA y u->r x y H Q ->
  subscripted M false v u=operate [v,u] (getItem v u)->wq X (subscriptTail O M v u) (EP X aa σ Q) X.xe s
def Kg (X:Cx)(id:String)(r:V->List V->Hp->VK->Prop):Prop:=
 ∀(aa:AO)(s:Shared)(σ:St)(H:Hp)(x:V)(xs:List V)(v:Value)(us:LU)(Q:VK),Inv X aa σ H s->aA x v->aD xs us->r x xs H Q ->
  wq X (call (.builtin id) (v::us)) (EP X aa σ Q) X.xe s
section
variable {X:Cx}{a b:Expr}{ta tb:TE}{pos:Pos}
def Gm (M:Pr X r)(ha:PE X a ta)(hb:PE X b tb)(hs:k7 b):PE X (.Subscript a b pos) (RN r ta tb):=λaa s σ H Q I h=>Subscript_ (Pc ha hb I h λv u s2 x y H2 O U c q=>M a b aa s2 σ H2 x y v u Q O U c q (hs _ _))
inductive Da (K:Frag)(x y:V)(H:Hp)(Q:VK):Prop|mk p xs i v:x=.ref p->y=.int i->dj K H p xs->qL xs i=some v->Q v H->Da K x y H Q
def Yd (K:Frag):R2:=λx y H Q=>Da K x y H Q
inductive Dd (K:Frag)(x y:V)(H:Hp)(Q:VK):Prop|mk p xs i v:x=.ref p->y=.int i->dM K H p xs->qL xs i=some v->Q v H->Dd K x y H Q
def Ye (K:Frag):R2:=λx y H Q=>Dd K x y H Q
inductive Do (x y:V)(H:Hp)(Q:VK):Prop|mk z i c:x=.str z->y=.int i->z.length<=sizeLine->qL z.cps.toList i=some c->Q (.str ⟨#[c]⟩) H->Do x y H Q
def Yf:R2:=λx y H Q=>Do x y H Q
def KN:Pr X (Yd X.K):=by
 intro M O aa s σ H x y v u Q I d e h hs;obtain⟨p,xs,i,z,rfl,rfl,hq,he,q⟩:=h;cases d
 obtain⟨t,rfl⟩:=e;refine cX λG g=>?_;refine I.lisE hq λits r pl hz=>?_;obtain⟨j,h1,h2,h3,h4,h5⟩:=tH he;obtain⟨w,c,U⟩:=r.get h2;apply g;have hl:=r.length;have hn:=oK;have dZ:EP X aa σ Q w s:=⟨z,H,I,U,q⟩;by_cases h0:0<=i
 .have hj:i.toNat=j:=by
   rw[seqIndex_of h0 h5]at h1;exact vK h1
  exact item_listR pl.isList h0 N9 (by rw[hj];simpa using c) dZ hs
 .have hj:(i+(its.toArray.size:Int)).toNat=j:=by
   rw[seqIndex_neg N9 h4]at h1;rw[vH,<-hl];exact vK h1
  exact subscriptTail_builtinR (x:=w) pl.isList.typeIs slot_list_getitem.lookup
   (wpAny_getItem_list_neg  pl.isList N9 (by rw[vH]<;>lia) N9 (by rw[hj];simpa using c) ⟨r4,dZ⟩) hs
def tI:Pr X (Ye X.K):=by
 intro M O aa s σ H x y v u Q I c d h hs;obtain⟨p,xs,i,z,rfl,rfl,hq,he,q⟩:=h;cases c
 obtain⟨t,rfl⟩:=d;refine cX λG g=>I.tupE hq λits r pl hz=>?_;obtain⟨j,h1,h2,h3,h4,h5⟩:=tH he;obtain⟨w,e,U⟩:=r.get h2;apply g;have hl:=r.length;have hn:=oK;exact subscriptTail_builtinR  pl.typeIs slot_tuple_getitem.lookup
  (getItem_tuple (j:=j)  pl N9 N9 (by simp_all) (by simpa using e) ⟨r4,⟨z,H,I,U,q⟩⟩) hs
def Gn:Pr X Yf:=by
 intro M O aa s σ H x y v u Q I U d h hs;obtain⟨z,i,c,rfl,rfl,hz,he,q⟩:=h;obtain⟨t,rfl⟩:=U;obtain⟨t',rfl⟩:=d;obtain⟨j,h1,h2,h3,h4,h5⟩:=tH he;have hl:z.cps.toList.length=z.length:=by simp[Str.length]
 rw[hl]at h1 h4 h5;have hn:=oK;exact tail_any (typeIs_str s z t) slot_str_getitem.lookup (getItem_str (c:=c) (by
  lia) (by rw[h1];simpa using h2) ⟨.str ⟨#[c]⟩,H,I.tok _,⟨_,r4⟩,q⟩) hs
def xx10 (i:Int)(n:Nat):max 0 (min (if i<0 then i+n else i) n)=((if i<0 then (i+n).toNat else min i.toNat n):Nat):=by
 split
 .rw[Int.min_eq_left (by lia),Int.ofNat_toNat,Int.max_comm]
 .rename_i h;obtain⟨k,rfl⟩:=Int.eq_ofNat_of_zero_le (Int.not_lt.mp h);rw[Int.toNat_natCast,Int.max_eq_right (Int.le_min.mpr ⟨Int.not_lt.mp h,Int.natCast_nonneg n⟩)];rcases Nat.le_total k n with z|z
  .rw[Nat.min_eq_left z,Int.min_eq_left (Int.ofNat_le.mpr z)]
  .rw[Nat.min_eq_right z,Int.min_eq_right (Int.ofNat_le.mpr z)]
def tJ (lo hi:OI)n:(sliceBounds lo hi none n).1=(HT.cH n 0 lo:Int)/\(sliceBounds lo hi none n).2.1=(HT.cH n n hi:Nat)/\(sliceBounds lo hi none n).2.2=1:=by
 refine⟨?_,?_,r4⟩
 .cases lo with
  |none=>rfl
  |some i=>exact xx10 i n
 .cases hi with
  |none=>rfl
  |some i=>exact xx10 i n
def qM (its:LU)(lo hi:OI):slicePick its.toArray lo hi none=((its.drop (HT.cH its.length 0 lo)).take (HT.cH its.length its.length hi - HT.cH its.length 0 lo)).toArray:=by
 obtain⟨h1,h2,h3⟩:=tJ lo hi _;unfold slicePick;rw[h1,h2,h3];simp only[sliceRange_one,pick_run,vH]<;>rfl
def Yg (K:Frag):V->OI->OI->Hp->VK->Prop:=λx lo hi H Q=>∃a xs,x=.ref a/\dj K H a xs/\∀p,H p=none->Q (.ref p) (upd H p (.lst (qK xs lo hi)))
def KO:FI X (Yg X.K):=by
 intro aa s σ H x v vl d lo hi sl Q I U hs pl c h;obtain⟨a,xs,rfl,hx,q⟩:=h;cases U
 refine I.lisE hx λits r O hz=>?_;have M:=r.length;refine⟨"list",_,slot_list_getitem.lookup,O.isList.typeIs,wpAny_getItem_list_slice O.isList hs pl c .none X9 ?_ (by rw[vH]<;>lia)⟩
 rw[qM,<-M];refine⟨.ref _,_,I.laid   (λb ob=>vZ _) (vT _) ?_,r4,q _ (I.hok.fresh (vT _))⟩;exact⟨vR (m8 xs lo hi) hz,_,0,(r.drop _).take _,vY _ r4⟩
noncomputable def jy:V->Bool
 |.non=>true
 |.bl _=>true
 |.int _=>true
 |.str _=>true
 |_=>false
noncomputable def KP:V->V->Bool
 |.non,.non=>true
 |.bl a,.bl b=>a == b
 |.bl a,.int b=>(if a then 1 else 0) == b
 |.int a,.bl b=>a == (if b then 1 else 0)
 |.int a,.int b=>a == b
 |.str a,.str b=>a == b
 |_,_=>false
def Ps (O:aA y u)(M:aA x v)(c:jy y=true)(U:jy x=true):SeqAt.EqAt A s u v (KP y x):=by
 cases y with
 |non=>
  cases O
  cases x with
  |non=>cases M;exact SeqAt.EqAt.same _
  |bl b=>cases M;exact SeqAt.EqAt.none_bool b
  |int b=>obtain⟨t,rfl⟩:=M;exact SeqAt.EqAt.none_int b t
  |str b=>obtain⟨t,rfl⟩:=M;exact SeqAt.EqAt.none_str b t
  |_=>exact absurd (show false=true from U) uY
 |bl a=>
  cases O
  cases x with
  |non=>cases M;exact SeqAt.EqAt.bool_none a
  |bl b=>cases M;exact SeqAt.EqAt.bool_bool a b
  |int b=>obtain⟨t,rfl⟩:=M;exact SeqAt.EqAt.bool_int a b t
  |str b=>obtain⟨t,rfl⟩:=M;exact SeqAt.EqAt.bool_str a b t
  |_=>exact absurd (show false=true from U) uY
 |int a=>
  obtain⟨t',rfl⟩:=O;cases x with
  |non=>cases M;exact SeqAt.EqAt.int_none a t'
  |bl b=>cases M;exact SeqAt.EqAt.int_bool a t' b
  |int b=>obtain⟨t,rfl⟩:=M;exact SeqAt.EqAt.int_int a t' b t
  |str b=>obtain⟨t,rfl⟩:=M;exact SeqAt.EqAt.int_str a t' b t
  |_=>exact absurd (show false=true from U) uY
 |str a=>
  obtain⟨t',rfl⟩:=O;cases x with
  |non=>cases M;exact SeqAt.EqAt.str_none a t'
  |bl b=>cases M;exact SeqAt.EqAt.str_bool a t' b
  |int b=>obtain⟨t,rfl⟩:=M;exact SeqAt.EqAt.str_int a t' b t
  |str b=>obtain⟨t,rfl⟩:=M;exact SeqAt.EqAt.str_str a t' b t
  |_=>exact absurd (show false=true from U) uY
 |_=>exact absurd (show false=true from c) uY
noncomputable def yT (x:V)(u:Value):Bool:=match u with
 |.none=>KP .non x
 |.bool b=>KP (.bl b) x
 |.int i _=>KP (.int i) x
 |.str z _=>KP (.str z) x
 |_=>false
def Go (r:aA y u)(f:jy y=true):yT x u=KP y x:=by
 cases y with
 |non=>cases r;rfl
 |bl b=>cases r;rfl
 |int i=>obtain⟨t,rfl⟩:=r;rfl
 |str z=>obtain⟨t,rfl⟩:=r;rfl
 |_=>exact absurd (show false=true from f) uY
theorem k8 {xs:List V}{us:LU}(h:aD xs us):xs.all jy=true->us.any (yT x)=xs.any λy=>KP y x:=by
 induction h with
 |nil=>intro _;rfl
 |cons r _ i=>intro f;rw[all_cons,vD]at f;rw[any_cons,any_cons,Go r f.1,i f.2]
theorem hZ (M:aA x v)(O:jy x=true){xs:List V}{us:LU}(h:aD xs us):xs.all jy=true->∀u∈us,SeqAt.EqAt A s u v (yT x u):=by
 induction h with
 |nil=>exact λ_ u hu=>by cases hu
 |cons r _ n=>
  intro f u hu;rw[all_cons,vD]at f;rcases vP hu with rfl|hu
  .rw[Go r f.1];exact Ps r M f.1 O
  .exact n f.2 u hu
noncomputable def Xn (x:V)(xs:List V):Bool:=xs.any λy=>KP y x
inductive D1 (K:Frag)(M:Bool)(x y:V)(H:Hp)(Q:VK):Prop|mk p xs:y=.ref p->(dj K H p xs\/dM K H p xs)->jy x=true->xs.all jy=true->Q (.bl (if M then !Xn x xs else Xn x xs)) H->D1 K M x y H Q
def rIn (K:Frag)(M:Bool):R2:=λx y H Q=>D1 K M x y H Q
def Ek:bT X (compareOp .In) (rIn X.K false):=by
 intro aa s σ H x y v u Q I M U h;obtain⟨p,xs,rfl,hq,O,fs,q⟩:=h;cases U
 rcases hq with hq|hq
 .refine I.lisE hq λits r pl hz=>?_;refine SeqAt.in_listAt (yT x) pl.isList (λw hw=>hZ M O r fs w (by simpa using hw)) ⟨.bl _,H,I,r4,?_⟩;rw[show its.toArray.any (yT x)=its.any (yT x) by simp,k8 r fs];exact q
 .refine I.tupE hq λits r pl hz=>?_;refine SeqAt.in_tupleAt (yT x) pl (λw hw=>hZ M O r fs w (by simpa using hw)) ⟨.bl _,H,I,r4,?_⟩;rw[show its.toArray.any (yT x)=its.any (yT x) by simp,k8 r fs];exact q
def tK:bT X (compareOp .NotIn) (rIn X.K true):=by
 intro aa s σ H x y v u Q I M U h;obtain⟨p,xs,rfl,hq,O,fs,q⟩:=h;cases U
 rcases hq with hq|hq
 .refine I.lisE hq λits r pl hz=>SeqAt.notIn_listAt (yT x) pl.isList (λw hw=>hZ M O r fs w (by simpa using hw)) ⟨.bl _,H,I,r4,?_⟩;rw[show its.toArray.any (yT x)=its.any (yT x) by simp,k8 r fs];exact q
 .refine I.tupE hq λits r pl hz=>SeqAt.notIn_tupleAt (yT x) pl (λw hw=>hZ M O r fs w (by simpa using hw)) ⟨.bl _,H,I,r4,?_⟩;rw[show its.toArray.any (yT x)=its.any (yT x) by simp,k8 r fs];exact q
def tL:aY X (.builtin "len") (λxs H Q=>∃p ys,xs=[.ref p]/\(dj X.K H p ys\/dM X.K H p ys)/\Q (.int ys.length) H):=by
 intro aa s σ H xs us Q I r h;obtain⟨p,ys,rfl,hq,q⟩:=h;obtain⟨u,rfl,U⟩:=cZ r;cases U
 have hn:=oK;rcases hq with hq|hq
 .refine I.lisE hq λits O pl hz=>?_;have M:=O.length;exact Calls.call_len_list pl.isList (by grind) ⟨.int _,H,I.tok _,⟨s.toks+1,by rw[vH,M]⟩,q⟩
 .refine I.tupE hq λits O pl hz=>?_;have M:=O.length;exact len_tuple pl (by grind) ⟨.int _,H,I.tok _,⟨s.toks+1,by rw[vH,M]⟩,q⟩
def tN:aY X (.builtin "len") (λxs H Q=>∃z,xs=[.str z]/\z.length<=sizeLine/\Q (.int z.length) H):=by
 intro aa s σ H xs us Q I r h;obtain⟨z,rfl,hz,q⟩:=h;obtain⟨u,rfl,t,rfl⟩:=cZ r;have hn:=oK;exact len_str N9 ⟨.int _,H,I.tok _,⟨_,r4⟩,q⟩
def aY.or (h:aY X f r)(h':aY X f O):aY X f (λxs H Q=>r xs H Q\/O xs H Q):=by
 intro aa s σ H xs us Q I M q;rcases q with q|q
 .exact h aa s σ H xs us Q I M q
 .exact h' aa s σ H xs us Q I M q
def tO:aY X (.type "list") (λxs H Q=>∃p ys,xs=[.ref p]/\(dj X.K H p ys\/dM X.K H p ys)/\∀l,H l=none->Q (.ref l) (upd H l (.lst ys))):=by
 intro aa s σ H xs us Q I r h;obtain⟨p,ys,rfl,hq,q⟩:=h;obtain⟨u,rfl,d⟩:=cZ r;cases d
 have dZ:∀(its:LU),aD ys its->ys.length<=sizeLine->∀(h':Heap)(M:Nat),(∀b o',s.heap.get? b=some o'->h'.get? b=some o') ->
   h'.get? s.z=some _->EP X aa σ Q _ _:=λits O hz h' M kp e=>
  ⟨.ref s.z,_,I.laid (t':=s.toks) kp (vT _) (show aE X.prog X.w _ h' _ (.lst ys)from ⟨hz,its,M,O,e⟩),r4,q _ (I.hok.fresh (vT _))⟩
 rcases hq with hq|hq
 .refine I.lisE hq λits O pl hz=>?_;have U:=O.length;obtain⟨o,c,hc,n,hd⟩:=pl.isList;exact call_list_seq p (.inl r4) c hc hd (λh' M kp e=>dZ its O hz h' M kp e) (by simp_all)
 .refine I.tupE hq λits O pl hz=>?_;have U:=O.length;obtain⟨o,c,hc,n,hd⟩:=pl;exact call_list_seq p (.inr r4) c hc hd (λh' M kp e=>dZ its O hz h' M kp e) (by simp_all)
def qN:aY X (.type "tuple") (λxs H Q=>∃p ys,xs=[.ref p]/\((dj X.K H p ys/\∀l,H l=none->Q (.ref l) (upd H l (.tup ys)))\/(dM X.K H p ys/\Q (.ref p) H))):=by
 intro aa s σ H xs us Q I r h;obtain⟨p,ys,rfl,h⟩:=h;obtain⟨u,rfl,c⟩:=cZ r;cases c
 rcases h with⟨hq,q⟩|⟨hq,q⟩
 .refine I.lisE hq λits M pl hz=>?_;have O:=M.length;refine call_tuple_list pl.isList (λh' kp=>?_) (by simp_all);have U:=I.kept (t':=s.toks) kp;exact⟨.ref _,_,U.laid (t':=s.toks) (λb o e=>vZ _ e) (vT _) (show aE X.prog X.w _ _ _ (.tup ys)from ⟨hz,its,M,IsTup.new _ _⟩),r4,q _ (U.hok.fresh (vT _))⟩
 .exact I.tupE hq λits M pl hz=>call_tuple_same pl ⟨.ref p,H,I,r4,q⟩
def Yh (K:Frag)(T:String)(x:V)(H:Hp):Prop:=match x with
 |.str _=>T = "str"
 |.int _=>T = "int"
 |.ref p=>(T = "list"/\∃xs,dj K H p xs)\/(T = "tuple"/\∃o,K.lookup p=some o/\o.cls=.type "tuple"/\o.dict=none) \/
   (T = "dict"/\((∃ay ob,H p=some (.dK ay ob))\/∃ay,H p=some (.dT ay)))\/(T = "set"/\∃S n,H p=some (.set S n))
 |_=>False
def tP (I:Inv X aa σ H s)(r:aA x v)(ty:Yh X.K T x H):
  s.TypeIs v T/\∀a,v=.ref a->∃ob,s.heap.get? a=some ob/\ob.dict=none:=by
 cases x with
 |str z=>
  obtain⟨t,rfl⟩:=r;cases (show T = "str" from ty)
  simp_all[typeIs_str]
 |int i=>
  obtain⟨t,rfl⟩:=r;cases (show T = "int" from ty)
  simp_all[typeIs_int]
 |ref p=>
  cases r
  rcases ty with⟨rfl,xs,hq⟩|⟨rfl,o,hk,hc,hd⟩|⟨rfl,hk⟩|⟨rfl,S,n,hk⟩
  .refine I.lisE hq λits y pl y=>?_;refine⟨pl.isList.typeIs,λa e=>?_⟩;cases e
   obtain⟨o,n,e,c,hd,y⟩:=pl;exact⟨o,e,hd⟩
  .refine⟨⟨o,I.kIn p o hk,hc⟩,λa e=>?_⟩;cases e
   exact⟨o,I.kIn _ o hk,hd⟩
  .have z:∃o,s.heap.get? p=some o/\o.ExactDict:=by
    rcases hk with⟨ay,M,hk⟩|⟨ay,hk⟩
    .refine cX λG g=>?_;obtain⟨y,y,y,y,y,o,y,y,e,ex,y⟩:=I.hok p _ hk;apply g;clear g;exact⟨o,e,ex⟩
    .refine cX λG g=>?_;obtain⟨y,y,y,y,o,y,y,e,ex,y⟩:=I.hok p _ hk;apply g;clear g;exact⟨o,e,ex⟩
   obtain⟨o,e,ex⟩:=z;refine⟨⟨o,e,ex.1⟩,λa e2=>?_⟩;cases e2
   exact⟨o,e,ex.2.1⟩
  .refine cX λG g=>?_;obtain⟨o,y,y,y,e,ex,y⟩:=I.hok p _ hk;apply g;clear g;refine⟨⟨o,e,ex.1⟩,λa e2=>?_⟩;cases e2
   exact⟨o,e,ex.2.1⟩
 |_=>exact False.elim ty
def Yi (K:Frag)(T:String)(r:V->List V->Hp->VK->Prop)(to:TE):TE:=λσ H Q=>to σ H λx M=>Yh K T x M/\r x [] M Q
def Yj (K:Frag)(T:String)(r:V->List V->Hp->VK->Prop)(to:TE)(t:TA):TE:=λσ H Q=>to σ H λx M=>Yh K T x M/\t σ M λxs H2=>r x xs H2 Q
variable {o e:Expr}{es:QD}{to:TE}{t:TA}{name:Str}{aW aO:Pos}{T id:String}{r:V->List V->Hp->VK->Prop}
def Pt (f:PlainAttrs T)(slot:Slot T name id)(U:typeOf (.builtin id)=pure (.type "method_descriptor"))(hm:Kg X id r)(g:PE X o to)
  (M:autoParam (attributeBase o name X.env (eval o X.env)=eval o X.env) I9._auto_1) (O:autoParam ((aW.endLine == aO.line)=true) I9._auto_1):PE X (.Call (.Attribute o name aW) [] [] aO) (Yi X.K T r to):=by
 intro aa s σ H Q I h;refine wpAny_Call_method0_late M O (aV (g aa s σ H _ I h) λv s1 ⟨x,i,c,d,ty,j⟩=>?_);obtain⟨h1,h2⟩:=tP c d ty;exact⟨T,id,f,slot,U,h1,h2,Calls.callWith_builtin r4 (PySem.evalArgs_none (hm aa s1 σ i x [] v [] Q c d .nil j))⟩
def oQ (g:PlainAttrs T)(slot:Slot T name id)(i:typeOf (.builtin id)=pure (.type "method_descriptor"))(hm:Kg X id r)(j:PE X o to)(ha:PA X (e::es) t)
  (O:autoParam (attributeBase o name X.env (eval o X.env)=eval o X.env) I9._auto_1)
  (k:autoParam (((backTo aO (starEach (e::es) X.env)).all (λx=>!x.1) && (backToKw aO (keywordEach [] X.env)).all (λx=>x.1.isSome)
   && decide ((e::es).length+([]:List Keyword).length+(if([]:List Keyword).isEmpty then 0 else 1)<30))=true) I9._auto_1)
  (U:autoParam ((aW.endLine == aO.line)=true) I9._auto_1) (hs:autoParam (bE e es X.env) I9._auto_1) (M:autoParam (dL aO es X.env) I9._auto_1):
  PE X (.Call (.Attribute o name aW) (e::es) [] aO) (Yj X.K T r to t):=by
 intro aa s σ H Q I h;refine wpAny_Call_method_late O k U r4 (aV (j aa s σ H _ I h) λv s1 ⟨x,l,c,d,ty,m⟩=>?_);obtain⟨h1,h2⟩:=tP c d ty;refine⟨T,id,g,slot,i,h1,h2,?_⟩;have f:=ha aO aa s1 σ l _ c m;rw[hs]at f |-;refine Calls.callWith_builtin (by show(false || (backTo aO _).any (·.1))=false;rw[M]<;>rfl) (Calls.evalArgs_plain ?_)
 exact aV f λus s2 ⟨vs,H2,n,p,q2⟩=>hm aa s2 σ H2 x vs v us Q n d p q2
/- xs.append(e),list.index on a module's tuple .. are Kg facts of 06m -/
end
def MtM (X:Cx)(id:String)(r:V->List V->Hp->VK->Prop):Prop:=
 ∀(aa:AO)(s:Shared)(σ:St)(H:Hp)(x:V)(xs:List V)(v:Value)(us:LU)(Q:VK),Inv X aa σ H s->aA x v->aD xs us->r x xs H Q ->
  wq X (call (.builtin id) (v::us)) (EP X aa σ Q) X.xe s
theorem aD.one(h:aD [x] us):∃u,us=[u]/\aA x u:=by
 cases h with
 |cons r h=>cases h;exact⟨_,r4,r⟩
def aD.two(h:aD [x,y] us):∃u v,us=[u,v]/\aA x u/\aA y v:=by
 cases h with
 |cons r h=>
  grind[aD.one]
theorem aD.zero:∀ {us:LU},aD [] us->us=[]
 |_,.nil=>r4
section
variable {X:Cx}{aa:AO}{σ:St}{H:Hp}{s:Shared}{l b:Addr}{xs ys zs:List V}
def Inv.lset {its its':LU}{n:Nat}{f:AV->AV}{t':Nat}(I:Inv X aa σ H s)(M:H l=some (.lst xs))
  (e:s.heap.get? l=some { cls:=.type "list",data:=.seq its.toArray n }) (hf:f its.toArray=its'.toArray) (O:aD ys its') (hz:ys.length<=sizeLine):
  Inv X aa σ (upd H l (.lst ys)) { s with heap:=s.heap.update l (Obj.mapSeq f),toks:=t' }:=by
 have q:=PySem.IsL.update e f;rw[hf]at q;exact I.write   (by rw[M];exact trivial) (.inl r4) (λU u hb=>(Heap.get?_update_other _ _ (Ne.symm hb)).trans) ⟨_,q⟩ ⟨hz,its',_,O,q⟩
def Inv.lnew (I:Inv X aa σ H s)(M:aD ys its)(hz:ys.length<=sizeLine):
  Inv X aa σ (upd H s.z (.lst ys)) { s with heap:=s.heap.push { cls:=.type "list",data:=.seq its.toArray },toks:=t' } :=
 I.laid (λy y=>vZ _) (vT _) ⟨hz,its,0,M,vY _ r4⟩
def Inv.fresh (I:Inv X aa σ H s):H s.z=none:=I.hok.fresh (vT _)
def Inv.lstM (I:Inv X aa σ H s)(M:H l=some (.lst xs)):xs.length<=sizeLine/\∃(its:LU)(n:Nat),aD xs its/\xs.length=its.length/\s.heap.get? l=some { cls:=.type "list",data:=.seq its.toArray n }:=by
 obtain⟨z,its,n,r,e⟩:=I.hok l _ M;exact⟨z,its,n,r,r.length,e⟩
def Gp (h:n<=sizeLine):Builtin.List.listTooLong n=false:=by
 simp_all[Builtin.List.listTooLong]
end
section
variable {X:Cx}
inductive FB (x:V)(vs:List V)(H:Hp)(Q:VK):Prop|mk l xs y:x=.ref l->vs=[y]->H l=some (.lst xs)->xs.length<sizeLine->Q .non (upd H l (.lst (xs++[y])))->FB x vs H Q
def nN:V->List V->Hp->VK->Prop:=λx vs H Q=>FB x vs H Q
def je:MtM X "list.append" nN:=by
 intro aa s σ H x vs v us Q I O U h;obtain⟨l,xs,y,rfl,rfl,M,hz,q⟩:=h;cases O
 obtain⟨u,rfl,ru⟩:=U.one;obtain⟨z,its,n,r,hl,e⟩:=I.lstM M;refine call_meets F.slot_list_append ⟨_,e,r4⟩ F.entry_list_append (F.args_list_append_2 _ _) (PySem.list_append l _ n u (by rw[vH];lia)) ⟨e,?_⟩;refine⟨.non,_,I.lset  M e X9 (r.append (.cons ru .nil)) ?_,r4,q⟩;simp<;>lia
inductive FF (x:V)(vs:List V)(H:Hp)(Q:VK):Prop|mk l b xs zs:x=.ref l->vs=[.ref b]->H l=some (.lst xs)->H b=some (.lst zs)->xs.length+zs.length<=sizeLine->Q .non (upd H l (.lst (xs++zs)))->FF x vs H Q
def KQ:V->List V->Hp->VK->Prop:=λx vs H Q=>FF x vs H Q
def El:MtM X "list.extend" KQ:=by
 intro aa s σ H x vs v us Q I a c h;obtain⟨l,b,xs,zs,rfl,rfl,U,d,hz,q⟩:=h;cases a
 obtain⟨u,rfl,ru⟩:=c.one;cases ru
 refine cX λG K=>?_;obtain⟨z,its,n,r,hl,e⟩:=I.lstM U;obtain⟨g,M,n2,f,i,e2⟩:=I.lstM d;apply K;have hsz:its.toArray.size+M.toArray.size<=sizeLine:=by simp_all
 refine call_meets F.slot_list_extend ⟨_,e,r4⟩ F.entry_list_extend (F.args_list_extend_2 _ _)
  (AutoSeq1.list_extend_list_list_0 l _ n b _ n2 (by
   simp_all[Gp]) (by lia) N9) ⟨e,e2,?_⟩
 refine⟨.non,_,I.lset  U e X9 (r.append f) ?_,r4,q⟩;simp_all
end
end L2
namespace Att
open PySem PySem.W PySem.Calls PyProof.Rows
def ny:∀ns vs,WellAll P h vs (ns.map WData.int)->IntsAre vs ns:=by
 intro ns;induction ns with
 |nil=>
  intro vs w;cases w
  exact .nil
 |cons n ns M=>
  intro vs w;cases w with
  |cons a b=>
   cases a
   exact .cons _ _ (M _ b)
def Em {l:OpenLaw}(hn:l.most=some n)
  (M:l.row.toRowW.claim.pre args=true) (b:WellAll P h vals args):
  ∃a vs ns,vals=[Value.ref a]/\args=[WData.list (ns.map WData.int)]/\h.get? a=some { cls:=.type "list",data:=.seq vs.toArray }/\IntsAre vs ns/\ns.length<=n:=by
 have hc:l.pre.holds [] _=true:=(pre_splitW M).2;obtain⟨d,r,rfl,h1,h2⟩:=hasAllW_cons (pre_splitW M).1;obtain rfl:=hasAllW_nil h2;obtain⟨xs,rfl,h3⟩:=hasW_list h1;obtain⟨ns,rfl⟩:=items_int h3;have O:ns.length<=n:=by
  have h5:=condW_of (by
   have h4:=(holds_andW hc).1;rw[hn]at h4;exact h4) (w_not (w_lt w_lit (w_len_list (w_arg r4))));simp_all
 cases b with
 |cons e f=>
  cases f
  cases e with
  |list g U=>exact⟨_,_,ns,r4,r4,g,ny ns _ U,O⟩
def En (l:OpenLaw)args:l.row.toRowW.claim.post args (.bool true) args=true:=
 postW_of  
  (by rfl)
  (show(WTm.eq _ _).value [] _=some (.bool _)from w_eq_bool (w_res r4) w_lit) r4
section
variable {prog:Program}{w:World}{A:Around}{E:QV}{s:Shared}{K:Frag}
end
end Att
namespace L2
open PySem PySem.Spec PyProof.Rows
theorem fZ {vs:LU}{ns:LI}(h:IntsAre vs ns):aD (ns.map V.int) vs:=h.rec .nil λn t _ _ _ i=>.cons ⟨t,r4⟩ i
noncomputable def cf (s:Stmt):Arguments:=match s with
 |.FunctionDef _ a _ _ _ _ _ _ _ _=>a
 |_=>{ posonlyargs:=[],args:=[],vararg:=none,kwonlyargs:=[],kw_defaults:=[],kwarg:=none,defaults:=[] }
noncomputable def aK (s:Stmt):List Stmt:=match s with
 |.FunctionDef _ _ b _ _ _ _ _ _ _=>b
 |_=>[]
noncomputable def aj (s:Stmt):Scope:=match s with
 |.FunctionDef _ _ _ _ _ _ sc _ _ _=>sc
 |_=>{ kind:=.function,names:=[],isGenerator:=false,isCoroutine:=false }
abbrev oR:K8:=λz z z z z z=>False
abbrev E0:XK:=λz z z=>False
def rl:dq oR X E0:=λz z z z z z z h=>h.elim
structure DS (K:Frag)(x qual:Str)(st:Stmt)(f:Addr)(fd:FuncData):Prop where
 ex:∃(oc:Value)(od:Option Addr)(kV doc pm:Value)(an:Option Addr)(bD ct:Value)(gZ:Array (Option Value)),
  fd=fnOf x qual (cf st) (aK st) (aj st) .none kV doc pm an bD ct/\K.lookup f=some ⟨oc,od,.func fd,gZ⟩/\PySem.W.codeIn K bD qual=true
 kp:PySem.W.keepIn K (.ref f)=true
section
variable {P:Program}{w:World}{K:Frag}{mg:SV}{base:Heap}
def DS.ok{st:Stmt}(F:DS K x qual st f fd)(S:FnScope N ps (aj st))(len:∀vs H Q E,sp vs H Q E->vs.length=ps.length)
  (M:∀bD(A)outer s(H:Hp)vs(Q:VK)(E:XK),bB k (A.deeper (envOfC qual (aj st) s.z f bD))->sp vs H Q E ->
   ∃t,kj (bK oR P w K mg base N qual (aj st) f bD A outer s H E).nox (aK st) t/\t { nx:=λy H'=>Q .non H',rt:=Q } (dD N vs) H):dI P w K mg base oR (k+1) f fd ps sp:=by
 obtain⟨oc,od,kV,doc,pm,an,bD,ct,gZ,rfl,lk,O⟩:=F.ex;refine m7 lk O S len λA outer s H vs Q E a U=>?_;obtain⟨t,h,q⟩:=M bD A outer s H vs Q E a U;exact⟨t,h.nox,q⟩
def DS.binds{st:Stmt}(F:DS K x qual st f fd)
  (h:∀(kV doc pm)an bD ct us,us.length=ps.length->bindArgs (fnOf x qual (cf st) (aK st) (aj st) .none kV doc pm an bD ct) ⟨us,[]⟩=pure (ps.zip us)):cL K fd ps []:=by
 obtain⟨oc,od,kV,doc,pm,an,bD,ct,gZ,rfl,lk,M⟩:=F.ex;exact .all (h kV _ pm an bD ct)
def tQ{st:Stmt}{kV doc pm bD ct:Value}(l:K.lookup f=some ⟨oc,od,.func (fnOf x qual (cf st) (aK st) (aj st) .none kV doc pm an bD ct),gZ⟩)
  (c:PySem.W.codeIn K bD qual=true) (k:PySem.W.keepIn K (.ref f)=true):DS K x qual st f (fnOf x qual (cf st) (aK st) (aj st) .none kV doc pm an bD ct):=⟨⟨oc,od,kV,doc,pm,an,bD,ct,gZ,r4,l,c⟩,k⟩
end
def au (H H':Hp):Prop:=∀b o,H b=some o->H' b=some o
def au.refl H:au H H:=λz z h=>h
def au.trans (a:au H M)(b:au M H2):au H H2:=λc o h=>b c o (a c o h)
def au.free (e:au H H')(h:H' l=Option.none):H l=Option.none:=by
 cases q:H l with
 |none=>rfl
 |some o=>
  rw[e l o q]at h;cases h
def au.seq {K:Frag}(e:au H H')(h:dj K H a xs):dj K H' a xs:=by
 rcases h with (h|⟨o,h⟩)|h
 .exact .inl (.inl (e _ _ h))
 .exact .inl (.inr ⟨o,e _ _ h⟩)
 .exact .inr h
section
variable {κ:Type}[DecidableEq κ]
noncomputable def ie (ay:List (κ×V))(k:κ):Option V:=(ay.find? λkv=>decide (kv.1=k)).map (·.2)
noncomputable def lO (ay:List (κ×V))(k:κ)(v:V):List (κ×V):=
 if(ay.any λkv=>decide (kv.1=k))=true then ay.map (λkv=>if kv.1=k then (kv.1,v)else kv)else ay++[(k,v)]
def kA{k:κ}(e:p.1=k):ie (p::r) k=some p.2:=by simp[ie,e]
def kB{k:κ}(e:¬p.1=k):ie (p::r) k=ie r k:=by simp[ie,e]
theorem wd k:∀ay:List (κ×V),(ay.any λkv=>decide (kv.1=k))=(ie ay k).isSome
 |[]=>r4
 |p::r=>by
  rw[any_cons];by_cases e:p.1=k
  .simp_all[kA]
  .rw[kB e,mv e];exact wd k r
theorem ig ay(k:κ)v:(lO ay k v).length<=ay.length+1:=by
 grind[lO]
def gx.isSome_eq (r:gx o u):o.isSome=u.isSome:=by
 cases o with
 |none=>cases u with
  |none=>rfl
  |some _=>exact(show False from r).elim
 |some _=>cases u with
  |none=>exact(show False from r).elim
  |some _=>rfl
def gx.getD (r:gx o u)(M:aA d d'):aA (o.getD d) (u.getD d'):=by
 cases o with
 |none=>cases u with
  |none=>exact M
  |some _=>exact(show False from r).elim
 |some _=>cases u with
  |none=>exact(show False from r).elim
  |some _=>exact r
def KV.val(r:KV ay vs)(k:κ):gx (ie ay k) (valueAt vs k):=by
 induction r with
 |nil=>exact True.intro
 |@cons p q ps M h t O=>
  obtain⟨h1,h2⟩:=h;by_cases e:p.1=k
  .have b:valueAt (q::M) k=some q.2:=by simp_all[valueAt]
   rw[kA e,b];exact h2
  simp_all[valueAt,kB]
def KV.any (r:KV ay vs)(k:κ):(ay.any λkv=>decide (kv.1=k))=vs.any λkv=>decide (kv.1=k):=by
 induction r with
 |nil=>rfl
 |cons h t M=>simp_all
def KV.repl (r:KV ay vs)(k:κ)(O:aA y u):
  KV (ay.map λkv=>if kv.1=k then (kv.1,y)else kv) (vs.map λkv=>if kv.1=k then (kv.1,u)else kv):=by
 induction r with
 |nil=>exact .nil
 |@cons p q ps U h t M=>
  rw[uZ];refine .cons ?_ M;split<;>simp_all
def KV.put (r:KV ay vs)(k:κ)(M:aA y u):KV (lO ay k y) (stored vs k u):=by
 unfold lO stored;rw[r.any k];by_cases e:(vs.any λkv=>decide (kv.1=k))=true
 .rw[if_pos e,if_pos e];exact r.repl k M
 .rw[if_neg e,if_neg e];exact Paired.snoc r ⟨r4,M⟩
def KV.length (r:KV ay vs):ay.length=vs.length:=Paired.length r
end
def oS (r:aA (kV k) u):(bR P w).is k u=true:=by
 cases k with
 |inl i=>obtain⟨t,e⟩:=(show ∃t,u=Value.int i t from r);simp_all[vL]
 |inr x=>obtain⟨t,e⟩:=(show ∃t,u=Value.str x t from r);simp_all[vM]
theorem ro:∀ {ks:List d8}{us:LU},aD (ks.map kV) us->ItemsAre (bR P w) ks us
 |[],_,r=>by cases r;exact .nil
 |k::ks,_,r=>by
  cases r with
  |cons h t=>exact .cons (oS h) (ro t)
abbrev KT (H:Hp):List (List d8×V)->List (List d8×Addr×Value)->Prop:=Paired λp q=>p.1=q.1/\H q.2.1=some (.tup (p.1.map kV))/\aA p.2 q.2.2
def KT.val(r:KT H ay xs)k:gx (ie ay k) ((atKey xs k).map (·.2)):=by
 induction r with
 |nil=>exact True.intro
 |@cons p q ps M h t U=>
  obtain⟨h1,z,h2⟩:=h;by_cases e:p.1=k
  .have b:atKey (q::M) k=some q.2:=by simp[atKey,h1.symm.trans e]
   rw[kA e,b];exact h2
  simp_all[atKey,kB]
def KT.repl (r:KT H ay xs)k(O:aA y u):
  KT H (ay.map λkv=>if kv.1=k then (kv.1,y)else kv) (xs.map (putAt k u)):=by
 induction r with
 |nil=>exact .nil
 |@cons p q ps U h t M=>
  refine .cons ?_ M;unfold putAt;split<;>simp_all
def KT.put (r:KT H ay xs)(k:List d8)(hb:H b=some (.tup (k.map kV)))(M:aA y u):
  KT H (lO ay k y) (storedH xs k b u):=by
 have e:(ay.any λkv=>decide (kv.1=k))=(atKey xs k).isSome:=by
  rw[wd,(r.val k).isSome_eq,Option.isSome_map]
 unfold lO storedH;rw[e];by_cases q:(atKey xs k).isSome=true
 .rw[if_pos q,if_pos q];exact r.repl k M
 .rw[if_neg q,if_neg q];exact Paired.snoc r ⟨r4,hb,M⟩
def KT.keeps (r:KT H ay xs)(M:∀b ys,H b=some (.tup ys)->H' b=some (.tup ys)):KT H' ay xs:=
 Paired.mapP r λy y z=>⟨z.1,M _ _ z.2.1,z.2.2⟩
section
variable {P:Program}{w:World}{H:Hp}{h:Heap}{a:Addr}
def NF (ok:gy P w H h)(e:Rd H a u):aE P w H h a u:=e.ok ok
def yU (ok:gy P w H h)(e:H a=some (.dK ay ob)):h.get? a=some ob:=And.left (show aE P w H h a _ from ok a _ e)
def oV (ok:gy P w H h)(e:Rd H a (.dK ay ob)):ay.length<=sizeLine/\(a == sysModules)=false/\∃vs,KV ay vs/\h.DictOf (bR P w) a vs:=
 And.right (show aE P w H h a _ from NF ok e)
def oW (ok:gy P w H h)(e:H a=some (.dK ay ob)):ay.length<=sizeLine/\(a == sysModules)=false/\∃vs,KV ay vs/\h.DictOf (bR P w) a vs:=oV ok (.inl e)
theorem lP (ok:gy P w H h)(e:H a=some (.tup (ks.map kV))):(tupleKind (bR P w)).is h ks a:=by
 refine cX λG g=>?_;obtain⟨z,its,r,o,h1,h2,n,h3⟩:=(show aE P w H h a _ from ok a _ e);apply g;exact⟨o,its.toArray,n,h1,h2,h3,by simpa using ro r⟩
def oZ (ok:gy P w H h)(e:Rd H a (.dT ay)):ay.length<=sizeLine/\(a == sysModules)=false /\
  ∃xs,KT H ay xs/\h.DictOfH (tupleKind (bR P w)) a xs:=by
 refine cX λG g=>?_;obtain⟨z,y,xs,r,o,es,M,h1,h2,h3,h4,h5⟩:=(show aE P w H h a _ from NF ok e);apply g;refine⟨z,y,xs,r,o,es,M,h1,h2,h3,h4,λx hx=>?_,h5⟩;have all:∀ {l:List _}{m:List _},KT H l m->∀x∈m,(tupleKind (bR P w)).is h x.1 x.2.1:=by
  intro l m q;induction q with
  |nil=>intro x hx;exact nomatch hx
  |@cons p q ps O hq t U=>
   grind[lP]
 exact all r x hx
def Tf (ok:gy P w H h)(e:H a=some (.dT ay)):ay.length<=sizeLine/\(a == sysModules)=false /\
  ∃xs,KT H ay xs/\h.DictOfH (tupleKind (bR P w)) a xs:=oZ ok (.inl e)
end
def tR (H:Hp)(a:Addr)(y:V)(r:Option V):Prop:=
 (∃ay k ob,Rd H a (.dK ay ob)/\y=kV k/\r=ie ay k)\/∃ay k b,Rd H a (.dT ay)/\y=.ref b/\H b=some (.tup (k.map kV))/\r=ie ay k
def Tg (H:Hp)(a:Addr)(y v:V)(Q:Hp->Prop):Prop:=
 (∃ay k ob,H a=some (.dK ay ob)/\y=kV k/\ay.length<sizeLine/\∀M,Q (upd H a (.dK (lO ay k v) M))) \/
 ∃ay k b,H a=some (.dT ay)/\y=.ref b/\H b=some (.tup (k.map kV))/\ay.length<sizeLine/\Q (upd H a (.dT (lO ay k v)))
section
variable {X:Cx}{aa:AO}{σ:St}{H:Hp}{s:Shared}{a:Addr}{y v:V}{u r:Value}{o:Option V}{A:Around}{E:QV}
def Inv.big (I:Inv X aa σ H s):sysModules<s.z:=by
 exact Nat.lt_trans Z9 (I.mod.glob.keeps I.bk).lt
def Eo (hu:A.units+1<cLine)(I:Inv X aa σ H s)(g:tR H a y (some v))(d:aA y u)(h:∀O s',Inv X aa σ H s'->aA v O->Q O s'):
  wpAny (model X.prog X.w) A (getItem (.ref a) u) Q E s:=by
 rcases g with⟨ay,k,ob,e,U,l⟩|⟨ay,k,b,e,U,f,l⟩
 .subst U;refine cX λG K=>?_;obtain⟨z,hd,vs,lG,dd⟩:=oV I.hok e;obtain⟨O,hw,M⟩:=gx.some_of (by rw[l];exact lG.val k);apply K;exact wpAny_getItem_of (oS d) dd.mapOf hw (h O _ (I.tok _) M)
 .subst U;cases (show u=Value.ref b from d)
  refine cX λG K=>?_;obtain⟨z,hd,xs,lG,dd⟩:=oZ I.hok e;obtain⟨O,hw,M⟩:=gx.some_of (by rw[l];exact lG.val k);apply K;refine eB hw λp hp c=>?_;refine wpAny_getItem_heap (tupleKind_room_in1 hu) (lP I.hok f) dd hp ?_;rw[c];exact h O _ (I.tok _) M
def Yl (hu:A.units+1<cLine)(I:Inv X aa σ H s)(g:tR H a y o)(O:aA y u)(h:∀s',Inv X aa σ H s'->Q (.bool o.isSome) s'):
  wpAny (model X.prog X.w) A (compareOp .In u (.ref a)) Q E s:=by
 rcases g with⟨ay,k,ob,e,M,l⟩|⟨ay,k,b,e,M,U,l⟩
 .subst M;obtain⟨z,hd,vs,lG,dd⟩:=oV I.hok e;refine wpAny_in_of (oS O) hd dd.mapOf ?_;rw[<-(lG.val k).isSome_eq,<-l];exact h _ (I.tok _)
 .subst M;cases (show u=Value.ref b from O)
  obtain⟨z,hd,xs,lG,dd⟩:=oZ I.hok e;refine wpAny_in_heap (tupleKind_room_in1 hu) (lP I.hok U) hd dd ?_;have q:=(lG.val k).isSome_eq;rw[Option.isSome_map]at q;rw[<-q,<-l];exact h _ (I.tok _)
def KR (hu:A.units+1<cLine)(I:Inv X aa σ H s)(g:tR H a y o)(O:aA y u)(h:∀s',Inv X aa σ H s'->Q (.bool (!o.isSome)) s'):
  wpAny (model X.prog X.w) A (compareOp .NotIn u (.ref a)) Q E s:=by
 rcases g with⟨ay,k,ob,e,M,l⟩|⟨ay,k,b,e,M,U,l⟩
 .subst M;obtain⟨z,hd,vs,lG,dd⟩:=oV I.hok e;refine wpAny_notIn_of (oS O) hd dd.mapOf ?_;rw[<-(lG.val k).isSome_eq,<-l];exact h _ (I.tok _)
 .subst M;cases (show u=Value.ref b from O)
  obtain⟨z,hd,xs,lG,dd⟩:=oZ I.hok e;refine wpAny_notIn_heap (tupleKind_room_in1 hu) (lP I.hok U) hd dd ?_;have q:=(lG.val k).isSome_eq;rw[Option.isSome_map]at q;rw[<-q,<-l];exact h _ (I.tok _)
def tT (I:Inv X aa σ H s)(M:Su (H a))(hs:Heap.SameBut a s.heap h')(he:∃q,h'.get? a=some q)(new:aE X.prog X.w (upd H a ob) h' a ob):
  Inv X aa σ (upd H a ob) { s with heap:=h',toks:=t' } :=
 I.write M (.inl r4) (λb q hb=>(hs.2 b hb).trans) he new
def Gr (z:ay.length<=sizeLine)(hd:(a == sysModules)=false)(lG:KV ay vs)(dd:h'.DictOf (bR P w) a vs)(M:h'.get? a=some ob):
  aE P w H' h' a (.dK ay ob):=⟨M,z,hd,vs,lG,dd⟩
def Ep (hu:A.units+1<cLine)(I:Inv X aa σ H s)(g:Tg H a y v R)(d:aA y u)(f:aA v r)(h:∀H' s',R H'->Inv X aa σ H' s'->Q () s'):
  wpAny (model X.prog X.w) A (setItem (.ref a) u r) Q E s:=by
 rcases g with⟨ay,k,ob,e,O,l,U⟩|⟨ay,k,b,e,O,i,l,U⟩
 .subst O;obtain⟨z,hd,vs,lG,dd⟩:=oW I.hok e;have hz:vs.length<=sizeLine:=by rw[<-lG.length];exact z
  refine wpAny_setItem_pairs (hsz:=hz) (oS d) dd λh' M hs=>?_;obtain⟨q,hq⟩:∃q,h'.get? a=some q:=let ⟨q,_,_,hq,_⟩:=M;⟨q,hq⟩;exact h _ _ (U q) (tT I (by rw[e];exact True.intro) hs ⟨q,hq⟩ (Gr (by have:=ig ay k v;lia) hd (lG.put k f) M hq))
 .subst O;cases (show u=Value.ref b from d)
  obtain⟨z,hd,xs,lG,dd⟩:=Tf I.hok e;have hz:xs.length<=sizeLine:=by rw[<-Paired.length lG];exact z
  refine wpAny_setItem_heap (hsz:=hz) (tupleKind_room_in1 hu) (lP I.hok i) dd λh' M hs=>h _ _ U ?_;refine cX λG K=>?_;obtain⟨q,es,j,hq,h2,h3,h4,x,h5⟩:=M;apply K;refine tT I (by rw[e];exact True.intro) hs ⟨q,hq⟩ ⟨by have:=ig ay k v;lia,hd,_,(lG.put k i f).keeps λc ys ec=>?_,q,es,j,hq,h2,h3,h4,h5⟩;rw[af (Ss ec e (λz=>nomatch z))];exact ec
end
def Pu (i:Expr):Prop:=∀M iv,subscripted i false M iv=operate [M,iv] (getItem M iv)
def KS{T id:String}
  (hl:typeLookup (.type T) "__getitem__" = pure (some (.builtin id))) (hs:Pu M)
  (h:wpAny (model prog w) A (eval O env) (λo b=>wpAny (model prog w) A (eval M env) (λi U=>U.TypeIs o T/\wpAny (model prog w) A (getItem o i) Q E U) E b) E s):
  wpAny (model prog w) A (eval (.Subscript O M f) env) Q E s:=by
 refine Subscript_ (wpAny_mono h (λo b d=>wpAny_mono d (λi U a=>?_) λz z x=>x) λz z x=>x);obtain⟨g,a⟩:=a;refine wX (wX (wpAny_specialOf g hl ?_));first
  |exact wY (wX (by
   rw[hs o i];exact wpAny_operating (wpAny_mono a (λr c e=>wX (wpAny_letTemporaryGo (wY e))) λz z x=>x)))
  |exact wX _
  |exact wX _
def we (I:Inv X aa σ H s)(g:tR H a y o):s.TypeIs (.ref a) "dict":=by
 rcases g with⟨ay,k,M,e,z,z⟩|⟨ay,k,b,e,z,z,z⟩
 .obtain⟨_,_,vs,_,dd⟩:=oV I.hok e;exact dd.typeIs
 .obtain⟨_,_,xs,_,dd⟩:=oZ I.hok e;exact dd.typeIs
def Th (td ty:TE):TE:=λσ H Q=>td σ H λx M=>ty σ M λy H2=>∃a v,x=.ref a/\tR H2 a y (some v)/\Q v H2
def Ym (ty td:TE):TE:=λσ H Q=>ty σ H λy M=>td σ M λx H2=>∃a o,x=.ref a/\tR H2 a y o/\Q (.bl o.isSome) H2
def KU (ty td:TE):TE:=λσ H Q=>ty σ H λy M=>td σ M λx H2=>∃a o,x=.ref a/\tR H2 a y o/\Q (.bl (!o.isSome)) H2
def AE (td ty M:TE):TS:=λD σ H=>M σ H λv O=>td σ O λx H2=>ty σ H2 λy U=>∃a,x=.ref a/\Tg U a y v (D.nx σ)
section
variable {X:Cx}{o i e value:Expr}{pos nJ R8:Pos}{td ty tv:TE}
def KW (hu:X.A.units+1<cLine)(U:PE X o td)(hi:PE X i ty)(hs:Pu i):PE X (.Subscript o i pos) (Th td ty):=by
 intro aa s σ H Q I h;refine KS PySem.F.slot_dict_getitem.lookup hs (aV (U _ s σ H _ I h) λu s1 ⟨x,b,c,d,f⟩=>aV (hi _ s1 σ b _ c f) λiv s2 ⟨y,H2,O,j,a,v,ex,g,q2⟩=>?_);subst ex;obtain rfl:u=Value.ref a:=d;exact⟨we O g,Eo hu O g j λl m k M=>⟨v,H2,k,M,q2⟩⟩
def Pw (hu:X.A.units+1<cLine)(hi:PE X i ty)(M:PE X o td):PC X .In i o (Ym ty td):=by
 intro aa s σ H Q I h;refine aV (hi _ s σ H _ I h) λiv s1 ⟨y,O,U,b,c⟩=>aV (M _ s1 σ O _ U c) λu s2 ⟨x,H2,d,f,a,k,ex,g,q2⟩=>?_;subst ex;obtain rfl:u=Value.ref a:=f;exact Yl hu d g b λl j=>⟨.bl _,H2,j,r4,q2⟩
def Es (hu:X.A.units+1<cLine)(hi:PE X i ty)(M:PE X o td):PC X .NotIn i o (KU ty td):=by
 intro aa s σ H Q I h;refine aV (hi _ s σ H _ I h) λiv s1 ⟨y,O,U,b,c⟩=>aV (M _ s1 σ O _ U c) λu s2 ⟨x,H2,d,f,a,k,ex,g,q2⟩=>?_;subst ex;obtain rfl:u=Value.ref a:=f;exact KR hu d g b λl j=>⟨.bl _,H2,j,r4,q2⟩
def tU (hu:X.A.units+1<cLine)(M:PE X o td)(hi:PE X i ty)(O:PE X value tv)(hs:swapsWith value (some (.Subscript o i nJ)) pos.line X.env=pure false):
  PS X (.Assign [.Subscript o i nJ] value pos) (AE td ty tv):=by
 intro aa s σ H D I h;refine wpAny_Assign_Subscript (aV (O _ s σ H _ I h) λr s1 ⟨v,U,b,c,d⟩=>aV (M _ s1 σ U _ b d) λu s2 ⟨x,H2,f,j,q2⟩=>aV (hi _ s2 σ H2 _ f q2) λiv q ⟨y,t,k,l,a,ex,g⟩=>?_) hs;subst ex;obtain rfl:u=Value.ref a:=j;exact Ep hu k g l c λm w n p=>⟨σ,m,p,n⟩
end
def wg (h:Heap)(hb:sysModules<h.objs.size):aE P w H (h.push { cls:=.type "dict",data:=.dict #[] }) h.objs.size (.dK [] { cls:=.type "dict",data:=.dict #[] }):=
 ⟨vY _ r4,uO _,beq_eq_false_iff_ne.mpr (Ne.symm (vS hb)),[],.nil,Heap.DictOf.new h⟩
def Gs (h:Heap)(hb:sysModules<h.objs.size):aE P w H (h.push { cls:=.type "dict",data:=.dict #[] }) h.objs.size (.dT []):=
 ⟨uO _,beq_eq_false_iff_ne.mpr (Ne.symm (vS hb)),[],.nil,_,#[],0,vY _ r4,⟨r4,r4,r4⟩,r4,r4,nodup_nil⟩
def Gu:TE:=λz H Q=>∀p ob,H p=none->Q (.ref p) (upd H p (.dK [] ob))
def Gv:TE:=λz H Q=>∀p,H p=none->Q (.ref p) (upd H p (.dT []))
section
variable {X:Cx}{pos:Pos}
def Gw:PE X (.Dict [] [] pos) Gu:=λaa s σ H Q I h=>
 wpAny_Dict_empty ⟨.ref _,_,I.laid (λz z=>vZ _) (vT _) (wg _ I.big),r4,h _ _ (I.hok.fresh (vT _))⟩
def Gx:PE X (.Dict [] [] pos) Gv:=λaa s σ H Q I h=>
 wpAny_Dict_empty ⟨.ref _,_,I.laid (λz z=>vZ _) (vT _) (Gs _ I.big),r4,h _ (I.hok.fresh (vT _))⟩
end
structure M1 (X:Cx)(o:Expr)(m:Str)(aW:Pos)(e:Expr)(aO:Pos):Prop where
 base:attributeBase o m X.env (eval o X.env)=eval o X.env
 few:m4 aO e X.env
 line:(aW.endLine == aO.line)=true
 trees:backTo aO (starEach [e] X.env)=[(false,eval e X.env)]
def IsD (H:Hp)(a:Addr):Prop:=(∃ay ob,Rd H a (.dK ay ob))\/∃ay,Rd H a (.dT ay)
def Px (I:Inv X aa σ H s)(d:IsD H a):
  s.TypeIs (.ref a) "dict"/\(∀b,Value.ref a=.ref b->∃ob,s.heap.get? b=some ob/\ob.dict=none)/\(a == sysModules)=false:=by
 rcases d with⟨ay,M,e⟩|⟨ay,e⟩
 .obtain⟨_,hd,vs,_,dd⟩:=oV I.hok e;refine⟨dd.typeIs,λb q=>?_,hd⟩;cases q
  obtain⟨ob,z,z,h1,h2,z⟩:=dd;exact⟨ob,h1,h2.2.1⟩
 .obtain⟨_,hd,xs,_,dd⟩:=oZ I.hok e;refine⟨dd.typeIs,λb q=>?_,hd⟩;cases q
  obtain⟨ob,z,z,h1,h2,z⟩:=dd;exact⟨ob,h1,h2.2.1⟩
section
variable {X:Cx}{aa:AO}{σ:St}{H:Hp}{s:Shared}{a:Addr}{y d:V}{u r:Value}{o:Option V}{A:Around}{E:QV}
def Py (hu:A.units+1<cLine)(I:Inv X aa σ H s)(g:tR H a y o)(O:aA y u)(h:∀U s',Inv X aa σ H s'->aA (o.getD .non) U->Q U s'):
  wpAny (model X.prog X.w) A (call (.builtin "dict.get") [.ref a,u]) Q E s:=by
 rcases g with⟨ay,k,ob,e,M,l⟩|⟨ay,k,b,e,M,c,l⟩
 .subst M;obtain⟨z,hd,vs,lG,dd⟩:=oV I.hok e;refine call_meetsIn slot_dict_get dd.typeIs entry_dict_get (PySem.F.args_dict_get_2 _ _) (meets_dict_get _ a (oS O) hd) ⟨_,dd.mapOf,h _ _ (I.tok _) ?_⟩;rw[l];exact(lG.val k).getD r4
 .subst M;cases (show u=Value.ref b from O)
  obtain⟨z,hd,xs,lG,dd⟩:=oZ I.hok e;refine call_meetsIn slot_dict_get dd.typeIs entry_dict_get (PySem.F.args_dict_get_2 _ _) (meetsH_dict_get _ a b hd) ⟨tupleKind_room_in1 hu,k,xs,lP I.hok c,dd,h _ _ (I.tok _) ?_⟩;rw[l];exact(lG.val k).getD r4
end
def Pz (td ty:TE):TE:=λσ H Q=>td σ H λx M=>∃a,x=.ref a/\IsD M a/\ty σ M λy H2=>∃o,tR H2 a y o/\Q (o.getD .non) H2
section
variable {X:Cx}{o e f:Expr}{aW aO:Pos}{td ty tx:TE}
def wj (hu:X.A.units+1<cLine)(U:PE X o td)(he:PE X e ty)(m:M1 X o "get" aW e aO):PE X (.Call (.Attribute o "get" aW) [e] [] aO) (Pz td ty):=by
 intro aa s σ H Q I h;refine wpAny_Call_method m.base m.few m.line plainAttrs_dict slot_dict_get PySem.F.type_dict_get (aV (U _ s σ H _ I h) λu s1 ⟨x,b,O,c,a,ex,d,i⟩=>?_);subst ex;obtain rfl:u=Value.ref a:=c;obtain⟨t1,t2,z⟩:=Px O d;refine⟨t1,t2,?_⟩;rw[m.trees];refine Calls.callWith_builtin r4 (Calls.evalArgs_plain (Calls.spliced_cons (aV (he _ s1 σ b _ O i) λiv s2 ⟨y,H2,j,k,n,g,q2⟩=>Calls.spliced_nil ?_)));exact Py hu j g k λp q l M=>⟨_,H2,l,M,q2⟩
end
end L2
namespace DL
open PySem L2
abbrev St:=L2.St
set_option genInjectivity true in
inductive D where
 |non|bl (b:Bool)|int (i:Int)|str (x:Str)|ty (n:String)|tup (ds:List D)|lst (ds:List D)
  |dk (ks:List d8) (vs:List D)|dt (ks:List (List d8)) (vs:List D)
  |ob (a c:Addr) (ns:List Str) (vs:List D)
abbrev LD:=List D
abbrev LV:=List V
abbrev LK:=List d8
abbrev OB:=Option (D×Bool)
mutual
inductive Is (K:Frag)(H:Hp):V->D->Prop where
 |non:Is K H .non .non
 |bl (b:Bool):Is K H (.bl b) (.bl b)
 |int (i:Int):Is K H (.int i) (.int i)
 |str (x:Str):Is K H (.str x) (.str x)
 |ty (n:String):Is K H (.ty n) (.ty n)
 |tup {a:Addr}{vs:List V}{ds:List D}(h:dM K H a vs) (hs:IsL K H vs ds):Is K H (.ref a) (.tup ds)
 |lst {a:Addr}{vs:List V}{ds:List D}(h:dj K H a vs) (hs:IsL K H vs ds):Is K H (.ref a) (.lst ds)
 |dk {a:Addr}{ks:List d8}{vs:List V}{ds:List D}{ob:Obj}(h:H a=some (.dK (ks.zip vs) ob)) (hl:ks.length=vs.length) (hs:IsL K H vs ds):Is K H (.ref a) (.dk ks ds)
 |dt {a:Addr}{ks:List (List d8)}{vs:List V}{ds:List D}(h:H a=some (.dT (ks.zip vs))) (hl:ks.length=vs.length) (hs:IsL K H vs ds):Is K H (.ref a) (.dt ks ds)
 |ob {a c dx:Addr}{ns:List Str}{vs:List V}{ds:List D}(h:H a=some (.ins c dx (ns.zip vs))) (hl:ns.length=vs.length) (hs:IsL K H vs ds):Is K H (.ref a) (.ob a c ns ds)
inductive IsL (K:Frag)(H:Hp):List V->List D->Prop where
 |nil:IsL K H [] []
 |cons {v:V}{d:D}{vs:List V}{ds:List D}(h:Is K H v d) (hs:IsL K H vs ds):IsL K H (v::vs) (d::ds)
end
mutual
def bc:D->Bool
 |.lst _=>false
 |.dk _ _=>false
 |.dt _ _=>false
 |.ob _ _ _ _=>false
 |.tup ds=>bP ds
 |_=>true
def bP:LD->Bool
 |[]=>true
 |d::ds=>bc d && bP ds
end
@[simp] def Et:bc .non=true:=r4
@[simp] def Gy b:bc (.bl b)=true:=r4
@[simp] def Eu i:bc (.int i)=true:=r4
@[simp] def Ev x:bc (.str x)=true:=r4
@[simp] def Gz x:bc (.ty x)=true:=r4
@[simp] def Ew ds:bc (.tup ds)=bP ds:=r4
@[simp] def Ex ds:bc (.lst ds)=false:=r4
@[simp] def G0 (ks)ds:bc (.dk ks ds)=false:=r4
@[simp] def G1 ks ds:bc (.dt ks ds)=false:=r4
@[simp] def G2 a c(ns)ds:bc (.ob a c ns ds)=false:=r4
@[simp] def yV:bP []=true:=r4
@[simp] def fz (d)ds:bP (d::ds)=(bc d && bP ds):=r4
section
variable {K:Frag}{H H':Hp}
@[elab_as_elim] theorem IsL.ind {P:∀a b,IsL K H a b->Prop}(n:P [] [] .nil)(s:∀{v d b c}(i:Is K H v d) (j:IsL K H b c),P b c j->P (v::b) (d::c) (.cons i j)){a:LV}{b:LD}(h:IsL K H a b):P a b h:=by
 refine IsL.rec (motive_1:=λ_ _ _=>True) (motive_2:=P) ?_ ?_ ?_ ?_ ?_ ?_ ?_ ?_ ?_ ?_ n (λh t _=>s h t) h<;>(intros;trivial)
theorem Is.keep (M:∀a vs,dM K H a vs->dM K H' a vs)(O:∀a vs,dj K H a vs->dj K H' a vs)(U:∀a ay ob,H a=some (.dK ay ob)->H' a=some (.dK ay ob))(e:∀a ay,H a=some (.dT ay)->H' a=some (.dT ay))(f:∀a c dx fs,H a=some (.ins c dx fs)->H' a=some (.ins c dx fs)){v:V}{d:D}(h:Is K H v d):Is K H' v d:=
 Is.rec (motive_1:=λv d _=>Is K H' v d) (motive_2:=λv d _=>IsL K H' v d) .non .bl .int .str .ty (λh _=>.tup (M _ _ h)) (λh _=>.lst (O _ _ h)) (λh r _=>.dk (U _ _ _ h) r) (λh r _=>.dt (e _ _ h) r) (λh r _=>.ob (f _ _ _ _ h) r) .nil (λ_ _=>.cons) h
theorem IsL.keep (M:∀a vs,dM K H a vs->dM K H' a vs)(O:∀a vs,dj K H a vs->dj K H' a vs)(U:∀a ay ob,H a=some (.dK ay ob)->H' a=some (.dK ay ob))(b:∀a ay,H a=some (.dT ay)->H' a=some (.dT ay))(d:∀a c dx fs,H a=some (.ins c dx fs)->H' a=some (.ins c dx fs)){c:LV}{q:LD}(h:IsL K H c q):IsL K H' c q:=h.ind .nil λh _=>.cons (h.keep M O U b d)
theorem Is.keepT (M:∀a k,dM K H a k->dM K H' a k){v:V}{d:D}(h:Is K H v d):bc d=true->Is K H' v d:=
 Is.rec (motive_1:=λv d _=>bc d=true->Is K H' v d) (motive_2:=λv d _=>bP d=true->IsL K H' v d) (λ_=>.non) (λb _=>.bl b) (λi _=>.int i) (λx _=>.str x) (λx _=>.ty x) (λh _ k n=>.tup (M _ _ h) (k (by simpa using n))) (λ_ _ _ n=>by simp at n) (λ_ _ _ _ n=>by simp at n) (λ_ _ _ _ n=>by simp at n) (λ_ _ _ _ n=>by simp at n) (λ_=>.nil) (λ_ _ h k n=>by simp at n;exact .cons (h n.1) (k n.2)) h
theorem IsL.keepT (M:∀a b,dM K H a b->dM K H' a b){b:LV}{c:LD}(h:IsL K H b c):bP c=true->IsL K H' b c:=h.ind (λ_=>.nil) λh _ k n=>by simp at n;exact .cons (h.keepT M n.1) (k n.2)
def aG (e:au H H')(h:dM K H a xs):dM K H' a xs:=by
 rcases h with (h|⟨o,h⟩)|h
 .exact .inl (.inl (e _ _ h))
 .exact .inl (.inr ⟨o,e _ _ h⟩)
 .exact .inr h
def Is.mono (h:Is K H v d)(e:au H H'):Is K H' v d:=h.keep (λz z=>aG e) (λz z=>e.seq) (λz z z=>e _ _) (λz z=>e _ _) λz z z z=>e _ _
def IsL.mono (h:IsL K H v d)(e:au H H'):IsL K H' v d:=h.keep (λz z=>aG e) (λz z=>e.seq) (λz z z=>e _ _) (λz z=>e _ _) λz z z z=>e _ _
theorem IsL.length {vs:LV}{ds:LD}(h:IsL K H vs ds):vs.length=ds.length:=h.ind r4 λ_ _ i=>congrArg _ i
theorem IsL.get:∀ {vs:LV}{ds:LD}{i:Nat}{d:D},IsL K H vs ds->ds[i]? = some d->∃v,vs[i]? = some v/\Is K H v d
 |_,_,_,_,.nil,e=>by simp at e
 |_,_,0,_,.cons h _,e=>by simp_all
 |_,_,i+1,d,.cons _ t,e=>by
  obtain⟨u,h1,h2⟩:=t.get (by simpa using e);simp_all
theorem IsL.append {vs ws:LV}{ds es:LD}(h:IsL K H vs ds)(s:IsL K H ws es):IsL K H (vs++ws) (ds++es):=h.ind s λr _ i=>.cons r i
theorem IsL.take:∀ {vs:LV}{ds:LD}n,IsL K H vs ds->IsL K H (vs.take n) (ds.take n)
 |_,_,0,_=>by simpa using IsL.nil
 |_,_,_+1,.nil=>.nil
 |_,_,n+1,.cons r t=>.cons r (t.take n)
theorem IsL.drop:∀ {vs:LV}{ds:LD}n,IsL K H vs ds->IsL K H (vs.drop n) (ds.drop n)
 |_,_,0,r=>r
 |_,_,_+1,.nil=>.nil
 |_,_,n+1,.cons _ t=>t.drop n
def IsL.flat{ns:LI}(h:vs=ns.map V.int):IsL K H vs (ns.map D.int):=by
 subst h;induction ns with
 |nil=>exact .nil
 |cons n ns M=>exact .cons (.int n) M
end
structure Ext (B N H H':Hp):Prop where
 hh:au H H'
 bn:au B N
 nh:au N H'
 new:∀a o,N a=some o->B a=some o\/H a=none
def Ext.refl (h:au B H):Ext B B H H:=⟨.refl _,.refl _,h,λz z=>.inl⟩
def Ext.trans (x:Ext B N H M)(y:Ext N N2 M H2):Ext B N2 H H2:=
 ⟨x.hh.trans y.hh,x.bn.trans y.bn,y.nh,λa o e=>(y.new a o e).elim (λq=>x.new a o q) λq=>.inr (x.hh.free q)⟩
def Ext.laid (h:au B H)(hp:H p=none):Ext B (upd B p o) H (upd H p o):=by
 have M:=h.free hp;refine⟨λa u e=>?_,λa u e=>?_,λa u e=>?_,λa u e=>?_⟩
 .grind[af]
 .grind[af]
 .by_cases q:a=p
  .simp_all[ae]
  .rw[af q]at e |-;exact h _ _ e
 grind[af]
def Ext.grow (h:au B H)(hh:au H H'):Ext B B H H':=⟨hh,.refl _,h.trans hh,λz z=>.inl⟩
abbrev Env:=List OB
abbrev FE:=Env->OB
abbrev FA:=Env->Option LD
abbrev FT:=Env->Option Bool
def RP (K:Frag)(H N:Hp)(v:V):D->Prop
 |.tup ds=>∃(a:Addr)(vs:LV),v=.ref a/\dM K N a vs/\IsL K N vs ds/\∀(i:Nat)(es:LD),ds[i]? = some (.lst es)->∃(b:Addr)(us:LV),vs[i]? = some (.ref b)/\H b=none/\N b=some (.lst us)/\IsL K N us es
 |d=>∃(a:Addr)(vs:LV)(ds:LD),v=.ref a/\d=.lst ds/\H a=none/\N a=some (.lst vs)/\IsL K N vs ds
def RP.back (h:RP K H' N v d)(e:au H H'):RP K H N v d:=by
 cases d
 case tup=>obtain⟨a,vs,q,y,z,r⟩:=h;exact⟨a,vs,q,y,z,λi es g=>by obtain⟨b,us,g1,M,O⟩:=r i es g;exact⟨b,us,g1,e.free M,O⟩⟩
 all_goals obtain⟨a,vs,ds,q,y,z,r⟩:=h;exact⟨a,vs,ds,q,y,e.free z,r⟩
noncomputable def ij:LS:=["in_order","has_seal","is_first_death","bases_by","as_heard"]
noncomputable def qO (x:Str):Str:=x ++ ".<locals>." ++ "<lambda>"
def Tb (K:Frag)(B:Hp):Prop:=∀x∈ij,∀c P,PySem.W.tabIn K x=some (c,P)->B P=some (.tbl (qO x))
def Tb.mono (h:Tb K B)(e:au B M):Tb K M:=λx hx c P q=>e _ _ (h x hx c P q)
structure bQ (K:Frag)(B:Hp)(σ:St)(ρ:Env):Prop where
 tb:Tb K B
 at':∀(i:Nat)(d:D)(b:Bool),ρ[i]? = some (some (d,b))->∃v,σ[i]? = some (some v)/\Is K B v d
def bQ.mono (h:bQ K B σ ρ)(e:au B M):bQ K M σ ρ:=⟨h.tb.mono e,λi d b q=>let ⟨v,h1,h2⟩:=h.at' i d b q;⟨v,h1,h2.mono e⟩⟩
def Fin (K:Frag)(B H:Hp)(d:D)(b:Bool)(Q:VK):Prop:=∀(v:V)(H' N:Hp),Ext B N H H'->Is K N v d->(b=true->RP K H N v d)->Q v H'
inductive FH (K:Frag)(f:FE)(σ:St)(H:Hp)(Q:VK):Prop|mk (B:Hp)(ρ:Env)(d:D)(b:Bool):au B H->bQ K B σ ρ->f ρ=some (d,b)->Fin K B H d b Q->FH K f σ H Q
def tD (K:Frag)(f:FE):TE:=λσ H Q=>FH K f σ H Q
inductive FK (K:Frag)(f:FT)(σ:St)(H:Hp)(Q:Bool->Hp->Prop):Prop|mk (B:Hp)(ρ:Env)(c:Bool):au B H->bQ K B σ ρ->f ρ=some c->(∀H',au H H'->Q c H')->FK K f σ H Q
def wk (K:Frag)(f:FT):TT:=λσ H Q=>FK K f σ H Q
inductive FX (K:Frag)(f:FA)(σ:St)(H:Hp)(Q:List V->Hp->Prop):Prop|mk (B:Hp)(ρ:Env)(ds:LD):au B H->bQ K B σ ρ->f ρ=some ds->(∀(vs:LV)(H' N:Hp),Ext B N H H'->IsL K N vs ds->Q vs H')->FX K f σ H Q
def RQ (K:Frag)(f:FA):TA:=λσ H Q=>FX K f σ H Q
inductive Fr (K:Frag)(op:D->D->OB)(x y:V)(H:Hp)(Q:VK):Prop|mk (B:Hp)(dx M d:D)(b:Bool):au B H->Is K B x dx->Is K B y M->op dx M=some (d,b)->Fin K B H d b Q->Fr K op x y H Q
def rD (K:Frag)(op:D->D->OB):R2:=λx y H Q=>Fr K op x y H Q
def eR{G:Prop}(q:rD K op x y H Q)(k:∀B(c e d)b,au B H->Is K B x c->Is K B y e->op c e=some (d,b)->Fin K B H d b Q->G):G:=let⟨B,c,e,d,b,M,i,j,f,g⟩:=q;k B c e d b M i j f g
inductive GE (K:Frag)(op:D->OB)(x:V)(H:Hp)(Q:VK):Prop|mk (B:Hp)(dx d:D)(b:Bool):au B H->Is K B x dx->op dx=some (d,b)->Fin K B H d b Q->GE K op x H Q
def Yn (K:Frag)(op:D->OB):V->Hp->VK->Prop:=λx H Q=>GE K op x H Q
inductive GM (K:Frag)(op:LD->OB)(xs:LV)(H:Hp)(Q:VK):Prop|mk (B:Hp)(ds:LD)(d:D)(b:Bool):au B H->IsL K B xs ds->op ds=some (d,b)->Fin K B H d b Q->GM K op xs H Q
def wl (K:Frag)(op:LD->OB):LV->Hp->VK->Prop:=λxs H Q=>GM K op xs H Q
def e6{G:Prop}(q:wl K op xs H Q)(k:∀(B)ds(d)b,au B H->IsL K B xs ds->op ds=some (d,b)->Fin K B H d b Q->G):G:=by obtain⟨B,ds,d,b,M,i,e,f⟩:=q;exact k B ds d b M i e f
theorem Fin.one (h:Fin K B H d false Q)(s:au B H)(i:Is K B v d):Q v H:=h v H B (.refl s) i X9
def Fin.into (h:Fin K B H d b Q)(x:Ext B N H M):Fin K N M d b Q:=λv H' N' y i fr=>h v H' N' (x.trans y) i λe=>(fr e).back x.hh
@[simp] noncomputable def fC (d:D):FE:=λz=>some (d,false)
@[simp] noncomputable def ai (i:Nat):FE:=λρ=>match ρ[i]? with|some (some (d,_))=>some (d,false)|_=>none
@[simp] noncomputable def f2 (op:D->D->OB)(fa M:FE):FE:=λρ=>(fa ρ).bind λx=>(M ρ).bind λy=>op x.1 y.1
@[simp] noncomputable def f1 (op:D->OB)(fa:FE):FE:=λρ=>(fa ρ).bind λx=>op x.1
@[simp] def aI:FA:=λz=>some []
@[simp] noncomputable def ak (fa:FE)(fr:FA):FA:=λρ=>(fa ρ).bind λx=>(fr ρ).bind λxs=>some (x.1::xs)
@[simp] noncomputable def fA (op:LD->OB)(fa:FA):FE:=λρ=>(fa ρ).bind op
set_option tactic.hygienic true in
def P0 (h:tD K (ai i) σ H Q):∃v,σ[i]? = some (some v)/\Q v H:=by
 refine cX λG g=>?_;obtain⟨B,ρ,d,b,s,r,e,q⟩:=h;apply g;unfold ai at e;split at e
 .rename_i d' O M;cases e
  obtain⟨v,h1,h2⟩:=r.at' i _ _ M;exact⟨v,h1,q.one s h2⟩
 simp_all
def KY (h:tD K (f2 op fa fb) σ H Q):tD K fa σ H λx U=>tD K fb σ U λy H2=>rD K op x y H2 Q:=by
 refine cX λG g=>?_;obtain⟨B,ρ,d,b,s,r,e,q⟩:=h;refine eX e λx ex e=>eX e λy a e=>?_;apply g;exact⟨B,ρ,x.1,x.2,s,r,ex,λv U N M i1 z=>⟨N,ρ,y.1,y.2,M.nh,r.mono M.bn,a,λc H2 N2 O i2 z=>⟨N2,x.1,y.1,d,b,O.nh,i1.mono O.bn,i2,e,q.into (M.trans O)⟩⟩⟩
def Yo (h:tD K (f1 op fa) σ H Q):tD K fa σ H λx M=>Yn K op x M Q:=by
 refine cX λG g=>?_;obtain⟨B,ρ,d,b,s,r,e,q⟩:=h;refine eX e λx ex e=>?_;apply g;exact⟨B,ρ,x.1,x.2,s,r,ex,λv M N O i1 z=>⟨N,x.1,d,b,O.nh,i1,e,q.into O⟩⟩
def KZ (h:tD K (fA op fa) σ H Q):RQ K fa σ H λxs M=>wl K op xs M Q:=by
 refine cX λG g=>?_;obtain⟨B,ρ,d,b,s,r,e,q⟩:=h;refine eX e λx ex e=>?_;apply g;exact⟨B,ρ,x,s,r,ex,λv M N O i1=>⟨N,x,d,b,O.nh,i1,e,q.into O⟩⟩
def La (h:RQ K aI σ H Q):Q [] H:=by
 refine cX λG g=>?_;obtain⟨B,ρ,ds,s,r,e,q⟩:=h;apply g;cases e
 exact q [] H B (.refl s) .nil
def G3 (h:RQ K (ak fa fr) σ H Q):tD K fa σ H λx O=>RQ K fr σ O λxs H2=>Q (x::xs) H2:=by
 refine cX λG g=>?_;obtain⟨B,ρ,ds,s,r,e,q⟩:=h;refine eX e λx ex e=>eX e λy a e=>?_;apply g;cases e
 exact⟨B,ρ,x.1,x.2,s,r,ex,λv O N M i1 z=>⟨N,ρ,y,M.nh,r.mono M.bn,a,λvs H2 N2 U i2=>q _ H2 N2 (M.trans U) (.cons (i1.mono U.bn) i2)⟩⟩
@[simp] noncomputable def c8 (f:FE):FT:=λρ=>match f ρ with|some (.bl c,_)=>some c|_=>none
@[simp] noncomputable def gb (f g:FT):FT:=λρ=>match f ρ with|some true=>g ρ|some false=>some false|none=>none
@[simp] noncomputable def io (f g:FT):FT:=λρ=>match f ρ with|some true=>some true|some false=>g ρ|none=>none
@[simp] noncomputable def eF (f:FT):FT:=λρ=>(f ρ).map (!·)
@[simp] noncomputable def RS (c:FT)(f g:FE):FE:=λρ=>match c ρ with|some true=>f ρ|some false=>g ρ|none=>none
open Classical in
noncomputable def cE (H:Hp)(P:Addr->Prop):Hp:=λa=>if P a then none else H a
theorem bF (h:¬P a):cE H P a=H a:=by unfold cE;rw[if_neg h]
theorem tV (h:P a):cE H P a=none:=by unfold cE;rw[if_pos h]
theorem kC (h:cE H P a=some o):¬P a/\H a=some o:=by
 grind[tV,bF]
def aP:au (cE H P) H:=λz z e=>(kC e).2
def cM (e:∀a o,H a=some o->¬P a->H' a=some o/\¬M a):au (cE H P) (cE H' M):=λa o q=>by
 grind[kC,bF]
noncomputable def join (N N':Hp):Hp:=λa=>match N a with|some o=>some o|none=>N' a
def cS:au N (join N N'):=λa o e=>by unfold join;rw[e]
def cA (e:N a=none):join N N' a=N' a:=by unfold join;rw[e]
inductive own (σ:St)(ρ:Env)(a:Addr):Prop|mk (i:Nat)(d:D):ρ[i]? = some (some (d,true))->σ[i]? = some (some (V.ref a))->own σ ρ a
inductive Bx (K:Frag)(C:Hp):HO->D->Prop where
 |lst {vs:List V}{ds:List D}(h:IsL K C vs ds):Bx K C (.lst vs) (.lst ds)
 |dk {ks:List d8}{vs:List V}{ds:List D}(hl:ks.length=vs.length) (h:IsL K C vs ds) {ob:Obj}:Bx K C (.dK (ks.zip vs) ob) (.dk ks ds)
 |dt {ks:List (List d8)}{vs:List V}{ds:List D}(hl:ks.length=vs.length) (h:IsL K C vs ds):Bx K C (.dT (ks.zip vs)) (.dt ks ds)
def Bx.mono (h:Bx K C o d)(e:au C M):Bx K M o d:=by
 cases h with
 |lst h=>exact .lst (h.mono e)
 |dk hl h=>exact .dk hl (h.mono e)
 |dt hl h=>exact .dt hl (h.mono e)
def Bx.is (h:Bx K C o d)(e:C a=some o):Is K C (.ref a) d:=by
 cases h with
 |lst h=>exact .lst (dj.of e) h
 |dk hl h=>exact .dk e hl h
 |dt hl h=>exact .dt e hl h
structure cy (K:Frag)(B0 H0 N H:Hp)(σ:St)(ρ:Env):Prop where
 bh:au B0 H0
 tb:Tb K B0
 ext:Ext B0 N H0 H
 len:ρ.length=σ.length
 sh:∀(i:Nat)(d:D),ρ[i]? = some (some (d,false))->∃v,σ[i]? = some (some v)/\Is K (cE N (own σ ρ)) v d
 ow:∀(i:Nat)(d:D),ρ[i]? = some (some (d,true))->∃(a:Addr)(o:HO),σ[i]? = some (some (V.ref a))/\N a=some o/\H0 a=none/\Bx K (cE N (own σ ρ)) o d
 inj:∀(i j:Nat)(a:Addr)(d e:D),ρ[i]? = some (some (d,true))->ρ[j]? = some (some (e,true))->σ[i]? = some (some (V.ref a))->σ[j]? = some (some (V.ref a))->i=j
def tW (K:Frag)(B0 H0 H:Hp)(σ:St)(ρ:Env):Prop:=∃N,cy K B0 H0 N H σ ρ
section
variable {K:Frag}{B0 H0 N H H':Hp}{σ:St}{ρ:Env}
def cy.owL (s:cy K B0 H0 N H σ ρ)(i:Nat)(d:D)(q:ρ[i]? = some (some (.lst es,true)))(hd:autoParam (d=.lst es) I9._auto_1):∃(a:Addr)(vs:LV)(ds:LD),d=.lst ds/\σ[i]? = some (some (V.ref a))/\N a=some (.lst vs)/\H0 a=none/\IsL K (cE N (own σ ρ)) vs ds:=by
 obtain⟨a,o,h1,h2,h3,h4⟩:=s.ow i _ q;cases h4 with
 |lst h4=>exact⟨a,_,es,hd,h1,h2,h3,h4⟩
def boxed:HO->Prop
 |.lst _|.dK _ _|.dT _=>True
 |_=>False
def Bx.boxed (h:Bx K C o d):boxed o:=by cases h<;>exact trivial
def cy.owned (s:cy K B0 H0 N H σ ρ)(h:own σ ρ a):∃o,(N a=some o/\boxed o)/\H0 a=none:=by
 refine cX λG g=>?_;obtain⟨i,d,h1,h2⟩:=h;obtain⟨O,o,h3,h4,h5,M⟩:=s.ow i d h1;apply g;rw[h2]at h3;cases h3;exact⟨o,⟨h4,M.boxed⟩,h5⟩
def cy.rep (s:cy K B0 H0 N H σ ρ):bQ K N σ ρ:=⟨s.tb.mono s.ext.bn,λi d b q=>by
 cases b with
 |false=>obtain⟨v,h1,h2⟩:=s.sh i d q;exact⟨v,h1,h2.mono aP⟩
 |true=>
  obtain⟨a,o,h2,h3,z,h4⟩:=s.ow i d q;exact⟨_,h2,(h4.mono aP).is h3⟩⟩
noncomputable def n8 (ρ:Env):Env:=ρ.map λx=>match x with|some (d,false)=>some (d,false)|_=>none
def G4 {i:Nat}(h:(n8 ρ)[i]? = some (some (d,b))):b=false/\ρ[i]? = some (some (d,false)):=by
 unfold n8 at h;rw[vB]at h;cases e:ρ[i]? with
 |none=>rw[e]at h;cases h
 |some x=>
  rw[e]at h;match x,h with
  |some (d',false),h=>cases h;exact⟨r4,r4⟩
  |some (d',true),h=>cases h
  |none,h=>cases h
def cy.tbC (s:cy K B0 H0 N H σ ρ):Tb K (cE N (own σ ρ)):=λx hx c P q=>by
 have z:=s.tb.mono s.ext.bn x hx c P q;rw[bF]
 .exact z
 .intro y;obtain⟨o,⟨y,M⟩,w⟩:=s.owned y;rw[z]at y;cases y;exact M
def cy.repH (s:cy K B0 H0 N H σ ρ):bQ K (cE N (own σ ρ)) σ (n8 ρ):=⟨s.tbC,λi d b q=>by
 obtain⟨rfl,q2⟩:=G4 q;exact s.sh i d q2⟩
def cy.grow (s:cy K B0 H0 N H σ ρ)(x:Ext N N' H H'):cy K B0 H0 N' H' σ ρ:=by
 have c:au (cE N (own σ ρ)) _:=cM λa o e q=>⟨x.bn a o e,q⟩;refine⟨s.bh,s.tb,s.ext.trans x,s.len,λi d q=>?_,λi d q=>?_,s.inj⟩
 .obtain⟨v,h1,h2⟩:=s.sh i d q;exact⟨v,h1,h2.mono c⟩
 .obtain⟨a,o,h2,h3,h4,h5⟩:=s.ow i d q;exact⟨a,o,h2,x.bn _ _ h3,h4,h5.mono c⟩
def cy.growH (s:cy K B0 H0 N H σ ρ)(x:Ext (cE N (own σ ρ)) N' H H'):cy K B0 H0 (join N N') H' σ ρ/\au N' (cE (join N N') (own σ ρ)):=by
 have M:Ext N (join N N') H H':=by
  refine⟨x.hh,cS,λa o e=>?_,λa o e=>?_⟩
  .cases q:N a with
   |some u=>
    have:join N N' a=some u:=cS _ _ q;rw[this]at e;cases e;exact x.hh _ _ (s.ext.nh _ _ q)
   |none=>rw[cA q]at e;exact x.nh _ _ e
  .cases q:N a with
   |some u=>
    simp_all[join]
   |none=>
    rw[cA q]at e;rcases x.new a o e with z|z
    .have:=aP _ _ z;simp_all
    .exact .inr z
 refine⟨s.grow M,λa o e=>?_⟩;rcases x.new a o e with z|z
 .obtain⟨O,U⟩:=kC z;rw[bF O];exact cS _ _ U
 .have b:=s.ext.nh.free z;have:¬own σ ρ a:=λq=>by obtain⟨vs,⟨q,y⟩,y⟩:=s.owned q;lia
  simp_all[bF,cA]
noncomputable def unown (ρ:Env):Env:=ρ.map λx=>x.map λy=>(y.1,false)
def jf {i:Nat}(h:(unown ρ)[i]? = some (some (d,b))):b=false/\∃c,ρ[i]? = some (some (d,c)):=by
 unfold unown at h;simp_all<;>lia
def lQ:¬own σ (unown ρ) a:=λ⟨i,d,h,_⟩=>by
 obtain⟨z,y⟩:=jf h;cases z
def cy.unown (s:cy K B0 H0 N H σ ρ):cy K B0 H0 N H σ (unown ρ):=by
 refine⟨s.bh,s.tb,s.ext,by unfold DL.unown;rw[vI];exact s.len,λi d q=>?_,λi d q=>?_,λi j a d e q=>?_⟩
 .obtain⟨_,c,q⟩:=jf q;obtain⟨v,h1,h2⟩:=s.rep.at' i d c q;exact⟨v,h1,h2.mono λa o e=>by rw[bF lQ];exact e⟩
 .obtain⟨z,_⟩:=jf q;cases z
 .obtain⟨z,_⟩:=jf q;cases z
def bg {α:Type}{l:List α}{x y:α}(h:(l.set i x)[j]? = some y):(i=j/\x=y)\/(i≠j/\l[j]? = some y):=by
 by_cases e:i=j
 .subst e;rw[List.getElem?_set]at h;split at h
  .split at h
   .exact .inl ⟨r4,vK h⟩
   .cases h
  .contradiction
 .rw[vC e]at h;exact .inr ⟨e,h⟩
def rq {α M:Type}{l:List α}{m:List M}{x y:α}(h:(l.set i x)[i]? = some y)(e:l.length=m.length):i<m.length:=by
 obtain⟨h,z⟩:=vV h;rw[length_set]at h;lia
def tX(h:own (σ.set i (some v)) (ρ.set i x) a):(v=.ref a/\∃d,x=some (d,true))\/∃j,j≠i/\∃d,ρ[j]? = some (some (d,true))/\σ[j]? = some (some (V.ref a)):=by
 obtain⟨j,d,h1,h2⟩:=h;rcases bg h1 with⟨e,q⟩|⟨e,q⟩
 .rcases bg h2 with⟨e2,q2⟩|⟨e2,q2⟩
  .cases q2;exact .inl ⟨r4,d,q⟩
  .exact absurd e e2
 .rcases bg h2 with⟨e2,q2⟩|⟨e2,q2⟩
  .exact absurd e2 e
  .exact .inr ⟨j,λz=>e z.symm,d,q,q2⟩
def cy.bind (s:cy K B0 H0 N H σ ρ){i:Nat}{v:V}{d:D}(h:Is K (cE N (own σ ρ)) v d):cy K B0 H0 N H (σ.set i (some v)) (ρ.set i (some (d,false))):=by
 have o:∀a,own (σ.set i (some v)) (ρ.set i (some (d,false))) a->own σ ρ a:=λa q=>by
  rcases tX q with⟨y,d',p⟩|⟨j,y,d',U,q2⟩
  .cases p
  .exact⟨j,d',U,q2⟩
 have c:au (cE N _) _:=cM λa u e q=>⟨e,λz=>q (o a z)⟩;refine⟨s.bh,s.tb,s.ext,by simp[s.len],λj e q=>?_,λj e q=>?_,λj k a e f q b h1 h2=>?_⟩
 .rcases bg q with⟨rfl,p⟩|⟨ne,p⟩
  .cases p
   have hi:=rq q s.len;exact⟨v,by simp[hi],h.mono c⟩
  .obtain⟨w,h1,h2⟩:=s.sh j e p;exact⟨w,by simp_all,h2.mono c⟩
 .rcases bg q with⟨rfl,p⟩|⟨ne,p⟩
  .cases p
  .obtain⟨a,o,h1,h2,h3,h4⟩:=s.ow j e p;exact⟨a,o,by simp_all,h2,h3,h4.mono c⟩
 .rcases bg q with⟨rfl,p⟩|⟨ne,p⟩
  .cases p
  .rcases bg b with⟨rfl,M⟩|⟨O,M⟩
   .cases M
   .rw[vC ne]at h1;rw[vC O]at h2;exact s.inj j k a e f p M h1 h2
def cy.bindOwn (s:cy K B0 H0 N H σ ρ){i:Nat}{a:Addr}{ob:HO}{dd:D}(m:N a=some ob)(h0:H0 a=none)(O:∀(j:Nat)(d:D),ρ[j]? = some (some (d,true))->σ[j]? ≠ some (some (V.ref a)))
  (n:∀(j:Nat)(d:D),j≠i->ρ[j]? = some (some (d,false))->∃v,σ[j]? = some (some v)/\Is K (cE N (λb=>own σ ρ b\/b=a)) v d) (h:∀(j:Nat)(d:D),j≠i->ρ[j]? = some (some (d,true))->∃(U:Addr)(o:HO),σ[j]? = some (some (V.ref U))/\N U=some o/\Bx K (cE N (λb=>own σ ρ b\/b=a)) o d)
  (r:Bx K (cE N (λb=>own σ ρ b\/b=a)) ob dd):cy K B0 H0 N H (σ.set i (some (.ref a))) (ρ.set i (some (dd,true))):=by
 have o:∀b,own (σ.set i (some (V.ref a))) (ρ.set i (some (dd,true))) b->own σ ρ b\/b=a:=λb q=>by
  rcases tX q with⟨p,Z⟩|⟨j,Z,d',t,q2⟩
  .cases p;exact .inr r4
  .exact .inl ⟨j,d',t,q2⟩
 have c:au (cE N _) _:=cM λb u e q=>⟨e,λz=>q (o b z)⟩;refine⟨s.bh,s.tb,s.ext,by simp[s.len],λj e q=>?_,λj e q=>?_,λj k b e f q l h1 h2=>?_⟩
 .rcases bg q with⟨rfl,p⟩|⟨ne,p⟩
  .cases p
  .obtain⟨w,h1,h2⟩:=n j e (Ne.symm ne) p;exact⟨w,by simp_all,h2.mono c⟩
 .rcases bg q with⟨rfl,p⟩|⟨ne,p⟩
  .cases p
   have hi:=rq q s.len;exact⟨a,ob,by simp[hi],m,h0,r.mono c⟩
  .obtain⟨U,o',h1,h2,h4⟩:=h j e (Ne.symm ne) p;have h3:H0 U=none:=by
    obtain⟨a2,Z,k1,Z,k3,Z⟩:=s.ow j e p;simp_all
   exact⟨U,o',by simp_all,h2,h3,h4.mono c⟩
 .rcases bg q with⟨rfl,p⟩|⟨ne,p⟩
  .rcases bg l with⟨rfl,g⟩|⟨M,g⟩
   .rfl
   .rw[vC M]at h2;have x:V.ref a=V.ref b:=by
     rcases bg h1 with⟨Z,z⟩|⟨z,Z⟩
     .exact vK z
     .exact absurd r4 z
    cases x
    exact absurd h2 (O k f g)
  .rcases bg l with⟨rfl,g⟩|⟨M,g⟩
   .rw[vC ne]at h1;have y:V.ref a=V.ref b:=by
     rcases bg h2 with⟨Z,z⟩|⟨z,Z⟩
     .exact vK z
     .exact absurd r4 z
    cases y
    exact absurd h1 (O j e p)
   .rw[vC ne]at h1;rw[vC M]at h2;exact s.inj j k b e f p g h1 h2
end
set_option genInjectivity true in
inductive Res where
 |nx (ρ:Env)|rt (d:D) (b:Bool)|bk (ρ:Env)|ct (ρ:Env)
abbrev FS:=Env->Option Res
def Ti (K:Frag)(B0 H0:Hp)(E:Ends):Res->Prop
 |.nx ρ=>∀σ H,tW K B0 H0 H σ ρ->E.nx σ H
 |.rt d b=>∀v H N,Ext B0 N H0 H->Is K N v d->(b=true->RP K H0 N v d)->E.rt v H
 |.bk ρ=>∀σ H,tW K B0 H0 H σ ρ->E.bk σ H
 |.ct ρ=>∀σ H,tW K B0 H0 H σ ρ->E.ct σ H
inductive GT (K:Frag)(g:FS)(E:Ends)(σ:St)(H:Hp):Prop|mk (B0 H0:Hp)(ρ:Env)(r:Res):tW K B0 H0 H σ ρ->g ρ=some r->Ti K B0 H0 E r->GT K g E σ H
def jw (K:Frag)(g:FS):TS:=λE σ H=>GT K g E σ H
section
variable {K:Frag}{B0 H0 N H H':Hp}{σ:St}{ρ:Env}{E:Ends}
def cy.writeB (s:cy K B0 H0 N H σ ρ)(hi:ρ[i]? = some (some (d,true)))(M:σ[i]? = some (some (V.ref a)))(h:Bx K (cE N (own σ ρ)) ob dd):
  cy K B0 H0 (upd N a ob) (upd H a ob) σ (ρ.set i (some (dd,true))):=by
 have oa:own σ ρ a:=⟨i,d,hi,M⟩;obtain⟨ws,hw,h0⟩:=s.owned oa;have l:B0 a=none:=s.bh.free h0;have o:∀b,own σ (ρ.set i (some (dd,true))) b↔own σ ρ b:=λb=>by
  constructor
  .rintro⟨j,e,O,q2⟩;rcases bg O with⟨rfl,p⟩|⟨y,p⟩
   .exact⟨i,d,hi,q2⟩
   .exact⟨j,e,p,q2⟩
  .rintro⟨j,e,O,q2⟩;by_cases z:i=j
   .subst z;exact⟨i,dd,by rw[getElem?_set_self (vV hi).1],q2⟩
   .exact⟨j,e,by simp_all,q2⟩
 have c:au (cE N (own σ ρ)) (cE (upd N a ob) (own σ (ρ.set i (some (dd,true))))):=cM λb u e q=>by
  have ne:b≠a:=λz=>q (z ▸ oa);exact⟨by rw[af ne];exact e,λz=>q ((o b).mp z)⟩
 refine⟨s.bh,s.tb,⟨λb u e=>?_,λb u e=>?_,λb u e=>?_,λb u e=>?_⟩,by rw[length_set];exact s.len,λj e q=>?_,λj e q=>?_,λj k b e f q m h1 h2=>?_⟩
 .rw[af (λz=>by subst z;rw[h0]at e;cases e)];exact s.ext.hh _ _ e
 .rw[af (λz=>by subst z;rw[l]at e;cases e)];exact s.ext.bn _ _ e
 .by_cases z:b=a
  .simp_all[ae]
  .rw[af z]at e |-;exact s.ext.nh _ _ e
 .by_cases z:b=a
  .subst z;exact .inr h0
  .rw[af z]at e;exact s.ext.new _ _ e
 .rcases bg q with⟨rfl,p⟩|⟨ne,p⟩
  .cases p
  .obtain⟨v,h1,h2⟩:=s.sh j e p;exact⟨v,h1,h2.mono c⟩
 .rcases bg q with⟨rfl,p⟩|⟨ne,p⟩
  .cases p
   exact⟨a,ob,M,ae,h0,h.mono c⟩
  .obtain⟨g,o',h1,h2,h3,h4⟩:=s.ow j e p;have na:g≠a:=λz=>by subst z;exact ne (s.inj i j _ d e hi p M h1)
   exact⟨g,o',h1,by rw[af na];exact h2,h3,h4.mono c⟩
 .have get:∀ {j:Nat}{e:D},(ρ.set i (some (dd,true)))[j]? = some (some (e,true))->∃U,ρ[j]? = some (some (U,true)):=λ{j e} q=>by
   rcases bg q with⟨rfl,p⟩|⟨ne,p⟩
   .exact⟨d,hi⟩
   .exact⟨e,p⟩
  obtain⟨U,O⟩:=get q;obtain⟨n,q2⟩:=get m;exact s.inj j k b U n O q2 h1 h2
def cy.write (s:cy K B0 H0 N H σ ρ)(hi:ρ[i]? = some (some (d,true)))(M:σ[i]? = some (some (V.ref a)))(h:IsL K (cE N (own σ ρ)) vs ds):
  cy K B0 H0 (upd N a (.lst vs)) (upd H a (.lst vs)) σ (ρ.set i (some (.lst ds,true))):=s.writeB hi M (.lst h)
def cy.tups (s:cy K B0 H0 N H σ ρ):∀a vs,dM K N a vs->dM K (cE N (own σ ρ)) a vs:=λa vs h=>by
 have M:∀u,N a=some u->¬boxed u->cE N _ a=some u:=λu e hu=>by
  rw[bF λz=>?_];exact e;obtain⟨ws,⟨q,O⟩,y⟩:=s.owned z;simp_all
 rcases h with (h|⟨o,h⟩)|h
 .exact .inl (.inl (M _ h (λq=>q)))
 .exact .inl (.inr ⟨o,M _ h (λq=>q)⟩)
 .exact .inr h
def cy.flat (s:cy K B0 H0 N H σ ρ)(h:Is K N v d)(n:bc d=true):Is K (cE N (own σ ρ)) v d:=h.keepT s.tups n
def cy.flats (s:cy K B0 H0 N H σ ρ)(h:IsL K N v d)(n:bP d=true):IsL K (cE N (own σ ρ)) v d:=h.keepT s.tups n
def cy.rebase (s:cy K B0 H0 N H σ ρ):cy K (cE N (own σ ρ)) (cE H (own σ ρ)) N H σ ρ:=
 ⟨cM λa o e q=>⟨s.ext.nh _ _ e,q⟩,s.tbC,⟨aP,aP,s.ext.nh,λa o e=>by
  grind[tV,bF]⟩,s.len,s.sh,λi d q=>by
   obtain⟨a,o,h1,h2,z,h4⟩:=s.ow i d q;exact⟨a,o,h1,h2,tV ⟨i,d,q,h1⟩,h4⟩,s.inj⟩
def cy.unbase (s:cy K B0 H0 N H σ ρ)(t:cy K (cE N (own σ ρ)) (cE H (own σ ρ)) N' H' O ρ'):cy K B0 H0 N' H' O ρ':=by
 have h0:au H0 (cE H (own σ ρ)):=λa o e=>by
  rw[bF λz=>?_];exact s.ext.hh _ _ e;obtain⟨y,y,q⟩:=s.owned z;lia
 have M:au B0 (cE N (own σ ρ)):=λa o e=>by
  rw[bF λz=>?_];exact s.ext.bn _ _ e;obtain⟨y,y,q⟩:=s.owned z;rw[s.bh _ _ e]at q;cases q
 refine⟨s.bh,s.tb,⟨h0.trans t.ext.hh,M.trans t.ext.bn,t.ext.nh,λa o e=>?_⟩,t.len,t.sh,λi d q=>?_,t.inj⟩
 .rcases t.ext.new a o e with z|z
  .exact s.ext.new a o (aP _ _ z)
  .exact .inr (h0.free z)
 .obtain⟨a,o,h1,h2,h3,h4⟩:=t.ow i d q;exact⟨a,o,h1,h2,h0.free h3,h4⟩
def cy.based (t:cy K B0 H0 N H σ ρ):au B0 (cE N (own σ ρ)):=λa o e=>by
 rw[bF λz=>?_];exact t.ext.bn _ _ e;obtain⟨y,y,q⟩:=t.owned z;rw[t.bh _ _ e]at q;cases q
@[simp] noncomputable def bZ (g h:FS):FS:=λρ=>match g ρ with|some (.nx ρ')=>h ρ'|r=>r
@[simp] def b9:FS:=λρ=>some (.nx ρ)
@[simp] noncomputable def f6 (c:FT)(g h:FS):FS:=λρ=>match c ρ with|some true=>g ρ|some false=>h ρ|none=>none
@[simp] noncomputable def cq (f:FE):FS:=λρ=>(f ρ).map λx=>.rt x.1 x.2
@[simp] noncomputable def NG:D->Bool
 |.dk _ _=>true
 |.dt _ _=>true
 |_=>false
@[simp] def rz (i:Nat):FS:=λρ=>match ρ[i]? with|some (some (d,b))=>some (.rt d (b && !NG d))|_=>none
@[simp] def NH:D->Bool
 |.lst ds=>bP ds
 |_=>false
@[simp] def setE (ρ:Env)(i:Nat)(d:D)(b:Bool):Env:=
 if bc d=true then ρ.set i (some (d,false))else if b=true/\NH d=true then ρ.set i (some (d,true))else (unown ρ).set i (some (d,false))
@[simp] def cI (i:Nat)(f:FE):FS:=λρ=>(f ρ).map λx=>.nx (setE ρ i x.1 x.2)
@[simp] def G5 (i:Nat)(f:FE):FS:=λρ=>(f (n8 ρ)).map λx=>.nx (ρ.set i (some (x.1,false)))
@[simp] noncomputable def yW (i:Nat)(f:FE):FS:=λρ=>match ρ[i]? with
 |some (some (.lst ds,true))=>(f ρ).bind λx=>if bc x.1=true/\ds.length<sizeLine then some (.nx (ρ.set i (some (.lst (ds++[x.1]),true))))else none
 |_=>none
def AF (q:jw K (bZ g h) E σ H):FV (jw K g) (jw K h) E σ H:=by
 refine cX λG k=>?_;obtain⟨B0,H0,ρ,r,s,e,p⟩:=q;apply k;unfold bZ at e;cases M:g ρ with
 |none=>rw[M]at e;cases e
 |some O=>
  rw[M]at e;cases O with
  |nx ρ'=>exact⟨B0,H0,ρ,.nx _,s,M,λU H' s'=>⟨B0,H0,ρ',r,s',e,p⟩⟩
  |rt d b=>cases e;exact⟨B0,H0,ρ,_,s,M,p⟩
  |bk ρ'=>cases e;exact⟨B0,H0,ρ,_,s,M,p⟩
  |ct ρ'=>cases e;exact⟨B0,H0,ρ,_,s,M,p⟩
def wm (q:jw K b9 E σ H):vO E σ H:=by
 refine cX λG g=>?_;obtain⟨B0,H0,ρ,r,s,e,p⟩:=q;apply g;cases e
 exact p σ H s
def tW.grown (s:cy K B0 H0 N H σ ρ)(h:au H H'):tW K B0 H0 H' σ ρ:=⟨N,s.grow (.grow s.ext.nh h)⟩
def G6 (q:jw K (f6 c g h) E σ H):DZ (wk K c) (jw K g) (jw K h) E σ H:=by
 refine cX λG k=>?_;obtain⟨B0,H0,ρ,r,⟨N,s⟩,e,p⟩:=q;apply k;unfold f6 at e;cases ec:c ρ with
 |none=>rw[ec]at e;cases e
 |some b=>
  rw[ec]at e;refine⟨N,ρ,b,s.ext.nh,s.rep,ec,λM h1=>?_⟩;cases b with
  |true=>exact⟨B0,H0,ρ,r,.grown s h1,e,p⟩
  |false=>exact⟨B0,H0,ρ,r,.grown s h1,e,p⟩
def nO (q:jw K (cq f) E σ H):OX (tD K f) E σ H:=by
 refine cX λG g=>?_;obtain⟨B0,H0,ρ,r,⟨N,s⟩,e,p⟩:=q;apply g;refine eB e λx ex e=>?_;subst e;exact⟨N,ρ,x.1,x.2,s.ext.nh,s.rep,ex,λv M N1 O i1 f1=>p v M N1 (s.ext.trans O) i1 λb=>(f1 b).back s.ext.hh⟩
set_option tactic.hygienic true in
def G7 (q:jw K (rz i) E σ H):OX (kq i) E σ H:=by
 refine cX λG g=>?_;obtain⟨B0,H0,ρ,r,⟨N,s⟩,e,p⟩:=q;apply g;unfold rz at e;split at e
 .rename_i d b ei;cases e
  cases b with
  |false=>
   obtain⟨v,h1,h2⟩:=s.sh i d ei;exact⟨v,h1,p v H N s.ext (h2.mono aP) X9⟩
  |true=>
   obtain⟨a,o,h1,h2,h3,h4⟩:=s.ow i d ei;cases h4 with
   |lst h4=>exact⟨_,h1,p _ H N s.ext (.lst (dj.of h2) (h4.mono aP)) λ_=>⟨a,_,_,r4,r4,h3,h2,h4.mono aP⟩⟩
   |dk hl h4=>exact⟨_,h1,p _ H N s.ext (.dk h2 hl (h4.mono aP)) X9⟩
   |dt hl h4=>exact⟨_,h1,p _ H N s.ext (.dt h2 hl (h4.mono aP)) X9⟩
 simp_all
def cy.setE (s:cy K B0 H0 N H σ ρ)(x:Ext N N1 H H1)(h:Is K N1 v d)(f:b=true->RP K H N1 v d):cy K B0 H0 N1 H1 (σ.set i (some v)) (setE ρ i d b):=by
 have s1:=s.grow x;unfold DL.setE;by_cases hn:bc d=true
 .rw[if_pos hn];exact s1.bind (s1.flat h hn)
 .rw[if_neg hn];by_cases hb:b=true/\NH d=true
  .rw[if_pos hb];obtain⟨es,rfl⟩:∃es,d=.lst es:=by cases d<;>first|exact⟨_,r4⟩|(simp at hb)
   obtain⟨a,vs,ds,rfl,z,ha,O,hs⟩:=f hb.1;cases z
   have U:N a=none:=s.ext.nh.free ha;have g:¬own σ ρ a:=λz=>by obtain⟨ws,⟨q,y⟩,y⟩:=s.owned z;lia
   have c:au (cE N (own σ ρ)) (cE N1 (λb=>own σ ρ b\/b=a)):=cM λb u e q=>⟨x.bn _ _ e,λz=>z.elim q λz=>by subst z;rw[U]at e;cases e⟩;refine s1.bindOwn O (s.ext.hh.free ha) (λj e q z=>g ⟨j,e,q,z⟩) (λj e y q=>?_) (λj e y q=>?_) (.lst (hs.keepT (λt ts st=>?_) hb.2))
   .obtain⟨w,h1,h2⟩:=s.sh j e q;exact⟨w,h1,h2.mono c⟩
   .obtain⟨k,o',h1,h2,_,h4⟩:=s.ow j e q;exact⟨k,o',h1,x.bn _ _ h2,h4.mono c⟩
   .have M:∀u,N1 t=some u->¬boxed u->cE N1 (λb=>own σ ρ b\/b=a) t=some u:=λu e hu=>by
     rw[bF λz=>?_];exact e;rcases z with z|z
     .obtain⟨ws,⟨q,l⟩,_⟩:=s1.owned z;simp_all
     .subst z;rw[e]at O;cases O;exact hu trivial
    rcases st with (st|⟨o,st⟩)|st
    .exact .inl (.inl (M _ st (λq=>q)))
    .exact .inl (.inr ⟨o,M _ st (λq=>q)⟩)
    .exact .inr st
  .rw[if_neg hb];exact s1.unown.bind (h.mono λa o e=>by rw[bF lQ];exact e)
def tY (q:jw K (cI i f) E σ H):wb (tD K f) (fu i) E σ H:=by
 refine cX λG g=>?_;obtain⟨B0,H0,ρ,r,⟨N,s⟩,e,p⟩:=q;apply g;refine eB e λx ex e=>?_;subst e;exact⟨N,ρ,x.1,x.2,s.ext.nh,s.rep,ex,λv M N1 O i1 f1=>p _ M ⟨N1,s.setE O i1 f1⟩⟩
def G8 (q:jw K (G5 i f) E σ H):wb (tD K f) (fu i) E σ H:=by
 refine cX λG g=>?_;obtain⟨B0,H0,ρ,r,⟨N,s⟩,e,p⟩:=q;apply g;refine eB e λx ex e=>?_;subst e;refine⟨cE N _,n8 ρ,x.1,x.2,aP.trans s.ext.nh,s.repH,ex,λv M N1 O i1 f1=>?_⟩;obtain⟨s1,c⟩:=s.growH O;exact p _ M ⟨_,s1.bind (i1.mono c)⟩
def Lb (q:jw K (yW i f) E σ H):∃(a:Addr)(us:LV),σ[i]? = some (some (V.ref a))/\H a=some (.lst us)/\ky (tD K f) t9 σ H λxs H2=>nN (.ref a) xs H2 λ_ U=>E.nx σ U:=by
 refine cX λG k=>?_;obtain⟨B0,H0,ρ,r,⟨N,s⟩,e,p⟩:=q;apply k;unfold yW at e;split at e
 .rename_i ds ei;refine eX e λx ex e=>?_;split at e
  .rename_i hx;cases e
   refine cX λG k=>?_;obtain⟨a,vs,M,z,h1,h2,h3,h4⟩:=s.owL i _ ei;apply k;cases z
   refine⟨a,vs,h1,s.ext.nh _ _ h2,N,ρ,x.1,x.2,s.ext.nh,s.rep,ex,λv c N1 O i1 f1=>⟨a,vs,v,r4,r4,O.hh _ _ (s.ext.nh _ _ h2),by rw[h4.length];exact hx.2,?_⟩⟩;have s1:=s.grow O;refine cX λG k=>?_;obtain⟨d,g,M,z,k1,k2,_,b⟩:=s1.owL i _ ei;apply k;cases z
   rw[h1]at k1;cases k1;rw[O.bn _ _ h2]at k2;cases k2;exact p σ _ ⟨_,s1.write ei h1 (b.append (.cons (s1.flat i1 hx.1) .nil))⟩
  simp_all
 simp_all
end
noncomputable def eG (c:FT)(g:FS):Nat->Env->Option Res
 |0,_=>none
 |n+1,ρ=>match c ρ with
  |some true=>match g ρ with
   |some (.nx ρ')=>eG c g n ρ'
   |some (.ct ρ')=>eG c g n ρ'
   |some (.bk ρ')=>some (.nx ρ')
   |r=>r
  |some false=>some (.nx ρ)
  |none=>none
def Ey (q:jw K (eG c g n) E σ H):FY (wk K c) (jw K g) E σ H:=by
 refine cX λG k=>?_;obtain⟨B0,H0,ρ,r,s,e,p⟩:=q;apply k;refine⟨λm σ H=>∃ρ,tW K B0 H0 H σ ρ/\eG c g m ρ=some r,⟨n,ρ,s,e⟩,?_⟩;rintro m σ H ⟨ρ,⟨N,s⟩,e⟩;cases m with
 |zero=>cases e
 |succ m=>
  unfold eG at e;cases ec:c ρ with
  |none=>rw[ec]at e;cases e
  |some b=>
   rw[ec]at e;refine⟨N,ρ,b,s.ext.nh,s.rep,ec,λa h1=>?_⟩;cases b with
   |false=>cases e;exact p σ a (.grown s h1)
   |true=>
    refine⟨λσ H=>∃ρ,tW K B0 H0 H σ ρ/\eG c g m ρ=some r,λM H' w=>⟨m,lt_succ_self m,w⟩,?_⟩;cases O:g ρ with
    |none=>rw[O]at e;cases e
    |some U=>
     rw[O]at e;refine⟨B0,H0,ρ,U,.grown s h1,O,?_⟩;cases U with
     |nx ρ'=>exact λM H' s'=>⟨ρ',s',e⟩
     |ct ρ'=>exact λM H' s'=>⟨ρ',s',e⟩
     |bk ρ'=>cases e;exact λM H'=>p M H'
     |rt d b=>cases e;exact p
def iq (K:Frag)(J:It)(B:Hp)(ds:LD):Prop:=∀(i:Nat)(H:Hp),au B H ->
 (∀d,ds[i]? = some d->J.go i H/\∀x H',J.yld i H x H'->∃N,Ext B N H H'/\Is K N x d)/\(ds.length<=i->J.stop i H)
inductive IO (K:Frag)(f:FA)(σ:St)(H:Hp)(R:It->Hp->Prop):Prop|mk (B:Hp)(ρ:Env)(ds:LD):au B H->bQ K B σ ρ->f ρ=some ds->(∀(J:It)(H' N:Hp),Ext B N H H'->iq K J N ds->R J H')->IO K f σ H R
def tDI (K:Frag)(f:FA):TI:=λσ H R=>IO K f σ H R
abbrev FG:=D->Env->Option Env
def G9 (K:Frag)(tg:FG)(g:TG):Prop:=∀(B0 H0 N H:Hp)(σ:St)(ρ ρ':Env)(v:V)(d:D)(Q:St->Hp->Prop),cy K B0 H0 N H σ ρ->Is K (cE N (own σ ρ)) v d->tg d ρ=some ρ' ->
 (∀M H',tW K B0 H0 H' M ρ'->Q M H')->g v σ H Q
@[simp] noncomputable def nA (i:Nat):FG:=λd ρ=>some (ρ.set i (some (d,false)))
def ir:G9 K (nA i) (fu i):=by
 intro B0 H0 N H σ ρ ρ' v d Q s h e k;cases e
 exact k _ H ⟨N,s.bind h⟩
noncomputable def dr (tg:FG)(g:FS):LD->Env->Option Res
 |[],ρ=>some (.nx ρ)
 |d::ds,ρ=>(tg d ρ).bind λM=>match g M with
  |some (.nx ρ')=>dr tg g ds ρ'
  |some (.ct ρ')=>dr tg g ds ρ'
  |some (.bk ρ')=>some (.nx ρ')
  |r=>r
@[simp] def pb tg(g)ρ:dr tg g [] ρ=some (.nx ρ):=by rw[dr]
@[simp] theorem lR (tg)g d(ds)ρ:dr tg g (d::ds) ρ=(tg d ρ).bind λM=>match g M with
  |some (.nx ρ')=>dr tg g ds ρ'
  |some (.ct ρ')=>dr tg g ds ρ'
  |some (.bk ρ')=>some (.nx ρ')
  |r=>r:=by rw[dr]
@[simp] def yX (f:FA)(tg:FG)(g:FS):FS:=λρ=>(f (n8 ρ)).bind λds=>dr tg g ds ρ
def wn (B:G9 K tg t)(s1:cy K B0 H0 N H1 σ ρ)(c:au N1 (cE N (own σ ρ)))(J1:iq K J N1 ds)(e:dr tg g ds ρ=some r)(p:Ti K B0 H0 E r):
  ∃W:Nat->Nat->St->Hp->Prop,(∃m,W 0 m σ H1)/\∀i m σ H,W i m σ H->(J.stop i H/\E.nx σ H)\/(J.go i H/\∃N:St->Hp->Prop,(∀M H',N M H'->∃l,l<m/\W (i+1) l M H')/\∀x H',J.yld i H x H'->t x σ H' λf H2=>jw K g { E with nx:=N,ct:=N,bk:=E.nx } f H2):=by
 refine⟨λi m σ H=>∃(N:Hp)(ρ:Env),cy K B0 H0 N H σ ρ/\au N1 (cE N (own σ ρ))/\m=ds.length - i/\i<=ds.length/\dr tg g (ds.drop i) ρ=some r,⟨ds.length,_,ρ,s1,c,r4,uO _,e⟩,?_⟩;clear e s1 c;rintro i m σ H ⟨N,ρ,s,c,rfl,hi,e⟩;have hs:au N1 H:=c.trans (aP.trans s.ext.nh);obtain⟨C,D⟩:=J1 i H hs;by_cases O:i<ds.length
 .obtain⟨go,F⟩:=C ds[i] (by simp[O]);rw[List.drop_eq_getElem_cons O]at e;refine eX e λh G e=>?_;refine .inr ⟨go,λM H'=>∃(N:Hp)(ρ:Env),cy K B0 H0 N H' M ρ/\au N1 (cE N (own M ρ))/\dr tg g (ds.drop (i+1)) ρ=some r,λM H' ⟨N',ρ',s',I,L⟩=>⟨_,N9,N',ρ',s',I,r4,O,L⟩,λx H' y=>?_⟩;obtain⟨N2,U,i2⟩:=F x H' y;have P:Ext (cE N (own σ ρ)) (join (cE N (own σ ρ)) N2) H H':=by
   refine⟨U.hh,cS,λa o e=>?_,λa o e=>?_⟩
   .cases q:cE N (own σ ρ) a with
    |some u=>rw[cS _ _ q]at e;cases e;exact U.hh _ _ (s.ext.nh _ _ (aP _ _ q))
    |none=>rw[cA q]at e;exact U.nh _ _ e
   .cases q:cE N (own σ ρ) a with
    |some u=>rw[cS _ _ q]at e;simp_all
    |none=>
     rw[cA q]at e;rcases U.new a o e with z|z
     .rw[c _ _ z]at q;cases q
     .exact .inr z
  obtain⟨s2,n⟩:=s.growH P;have w:au N2 (join (cE N (own σ ρ)) N2):=λa o e=>by
   rcases U.new a o e with z|z
   .exact cS _ _ (c _ _ z)
   .rw[cA ((aP.trans s.ext.nh).free z)];exact e
  have Q:=i2.mono (w.trans n);have R:au N1 (cE (join N (join (cE N (own σ ρ)) N2)) (own σ ρ)):=(U.bn.trans w).trans n;refine B _ _ _ _ _ _ _ _ _ _ s2.rebase Q G λf H2 ⟨S,T⟩=>?_;cases k:g h with
  |none=>rw[k]at e;cases e
  |some A=>
   rw[k]at e;refine⟨_,_,h,A,⟨S,T⟩,k,?_⟩;have back:∀ {M:St}{H':Hp}{ρ':Env}{N':Hp},cy K _ _ N' H' M ρ'->cy K B0 H0 N' H' M ρ'/\au N1 (cE N' (own M ρ')):=λt=>⟨s2.unbase t,R.trans t.based⟩;cases A with
   |nx ρ'=>exact λM H' ⟨N',t⟩=>⟨N',ρ',(back t).1,(back t).2,e⟩
   |ct ρ'=>exact λM H' ⟨N',t⟩=>⟨N',ρ',(back t).1,(back t).2,e⟩
   |bk ρ'=>cases e;exact λM H' ⟨N',t⟩=>p M H' ⟨N',(back t).1⟩
   |rt d b=>
    cases e
    intro v H' N' j V X;have y:=s2.rebase.ext;have h0:au H0 (cE H' (λ_=>False)):=λa o e=>by rw[bF (λz=>z)];exact j.hh _ _ (by
     rw[bF λz=>?_];exact s2.ext.hh _ _ e;obtain⟨_,_,q⟩:=s2.owned z;lia)
    have Y:au H0 (cE H' (λ_=>False)):=h0;have hH:au H0 (cE H' (λ_=>False)):=h0;have hc:∀a,cE H' (λ_=>False) a=H' a:=λa=>bF (λz=>z);have hb:au H0 (cE _ (own σ ρ)):=λa o e=>by
     rw[bF λz=>?_];exact s2.ext.hh _ _ e;obtain⟨_,_,q⟩:=s2.owned z;lia
    have Z:au B0 (cE _ (own σ ρ)):=λa o e=>by
     rw[bF λz=>?_];exact s2.ext.bn _ _ e;obtain⟨_,_,q⟩:=s2.owned z;rw[s2.bh _ _ e]at q;cases q
    refine p v H' N' ⟨hb.trans j.hh,Z.trans j.bn,j.nh,λa o e=>?_⟩ V λz=>(X z).back hb;rcases j.new a o e with z|z
    .exact s2.ext.new a o (aP _ _ z)
    .exact .inr (hb.free z)
 .have ei:i=ds.length:=N9
  subst ei;rw[List.drop_eq_nil_of_le (vT _)]at e;cases e
  exact .inl ⟨D (vT _),p σ H ⟨N,s⟩⟩
def Lc (M:G9 K tg t)(q:jw K (yX f tg g) E σ H):Pb (tDI K f) t (jw K g) E σ H:=by
 refine cX λG k=>?_;obtain⟨B0,H0,ρ,r,⟨N,s⟩,e,p⟩:=q;refine eX e λds O e=>?_;apply k;refine⟨cE N _,n8 ρ,ds,aP.trans s.ext.nh,s.repH,O,λJ a N1 U J1=>?_⟩;obtain⟨s1,c⟩:=s.growH U;exact wn M s1 c J1 e p
inductive IR (K:Frag)(f:FA)(σ:St)(H:Hp)(R:It->Hp->Prop):Prop|mk (B:Hp)(ρ:Env)(ds:LD):au B H->bQ K B σ ρ->f ρ=some ds->(∀(J:It)(H' N:Hp),Ext B N H H'->(∀M,iq K J M ds)->R J H')->IR K f σ H R
def P1 (K:Frag)(f:FA):TI:=λσ H R=>IR K f σ H R
@[simp] def f7 (f:FA)(tg:FG)(g:FS):FS:=λρ=>(f ρ).bind λds=>dr tg g ds ρ
def wt (M:G9 K tg t)(q:jw K (f7 f tg g) E σ H):Pb (P1 K f) t (jw K g) E σ H:=by
 refine cX λG k=>?_;obtain⟨B0,H0,ρ,r,⟨N,s⟩,e,p⟩:=q;refine eX e λds O e=>?_;apply k;exact⟨N,ρ,ds,s.ext.nh,s.rep,O,λJ a N1 U J1=>wn M (s.grow U) (au.refl _) (J1 _) e p⟩
end DL
namespace DL
open PySem PySem.Spec PyProof.Rows L2
abbrev JE (X:Cx)(e:Expr)(f:FE):Prop:=PE X e (tD X.K f)
abbrev JT (X:Cx)(e:Expr)(f:FT):Prop:=PT X e (wk X.K f)
abbrev JW (X:Cx)(e:Expr)(f:FT):Prop:=PW X e (wk X.K f)
abbrev JA (X:Cx)(es:QD)(f:FA):Prop:=PA X es (RQ X.K f)
abbrev JS (X:Cx)(st:Stmt)(g:FS):Prop:=PS X st (jw X.K g)
abbrev yY (X:Cx)(st:List Stmt)(g:FS):Prop:=kj X st (jw X.K g)
abbrev JI (X:Cx)(tg M:Expr)(f:FA):Prop:=PI X tg M (tDI X.K f)
def GA (M:Model)(A:Around)(U:QD)(a:Expr)(env:PySem.Env)(b:Value)(E:QV)(P:Shared->Prop):Shared->Prop:=
 wpAny M A (forIn U true λc r=>if r=true then do let ok <-isTrue c env (eval c env);pure (ForInStep.yield ok)else pure (ForInStep.yield r))
  (λok O=>if ok=true then wpAny M A (eval a env) (λx=>wpAny M A (call (.builtin "list.append") [b,x]) (λz=>P) E) E O else P O) E
def tZ {E:QV}(i:∀x s,E x s->notedBy (model prog w) A env (λx s=>R (.error x) s) x s)(I:Nat->Shared->Prop)
  (j:∀n s,I n s->wpAny (model prog w) A (pyNext it) (λr M=>match r with
   |none=>R (.ok .next) M
   |some v=>wpAny (model prog w) A (letOwnedTupleGo JV it v) (λz=>wpAny (model prog w) A (assign JV env v) (λz=>GA (model prog w) A lJ hU env v7 E λs=>∃m,m<n/\I m s) E) E M) E s)
  (n:Nat) (h:I n s):codeAny (model prog w) A (.compLoop (.ListComp hU [⟨JV,bN,lJ,0⟩] scope pos) 0 it v7 env) R s:=by
 refine codeAny_loop r4 I (λn s k=>?_) n h;refine wpAny_noted (wpAny_mono (E:=E) ?_ (λz z q=>q) i);rw[compTurn_list];refine wX (wpAny_standAt (wX (aV (j n s k) λr M O=>?_)));cases r with
 |none=>exact wY O
 |some v=>
  refine wX (aV O λz M O=>wX (aV O λz d a=>wX (aV a λok e U=>?_)));cases ok with
  |false=>exact wY ⟨r4,U⟩
  |true=>exact wX (wX (aV U λx f b=>wX (aV b λz g c=>wY (wY ⟨r4,c⟩))))
theorem Ext.upd (x:Ext B N H H')(h:H a=none)(M:N a=none):Ext B N H (upd H' a o):=
 ⟨λb u e=>by rw[af (λz=>by subst z;rw[h]at e;cases e)];exact x.hh _ _ e,x.bn,λb u e=>by rw[af (λz=>by subst z;rw[M]at e;cases e)];exact x.nh _ _ e,x.new⟩
noncomputable abbrev bG (X:Cx)(N':LS)(scope:Scope)(cl:List (Str×Addr))(C:Addr)(M:Shared)(O:Hp)(fp:List Addr):Cx:=
 { X with N:=N',s₀:=M,H₀:=O,env:=compEnvC scope cl C X.env,outer:=X.stack,stack:=X.stack,ex:=fp,fn:=λz=>false,pn:=[],xe:=λz z=>False }
inductive hG (X:Cx)(N':List Str)(scope:Scope)(cl:List (Str×Addr)):Nat->List Nat->Prop where
 |nil {j:Nat}(h:N'.length=j):hG X N' scope cl j []
 |cons {j i:Nat}{r:List Nat}{x:Str}(h1:N'[j]? = some x) (h2:X.N[i]? = some x) (h3:X.env.kindOf x=some .cell\/X.env.kindOf x=some .free)
   (h4:(relabel scope X.env).names.lookup x=some .cell\/(relabel scope X.env).names.lookup x=some .free) (h5:cl.lookup x=X.env.cells.lookup x) (t:hG X N' scope cl (j+1) r):hG X N' scope cl j (i::r)
theorem hG.len {j:Nat}{M:LN}(h:hG X N' scope cl j M):N'.length=j+M.length:=by
 induction h with
 |nil h=>rw[h];rfl
 |cons _ _ _ _ _ _ i=>rw[i,vE];lia
theorem hG.get {j:Nat}{M:LN}{k i:Nat}(h:hG X N' scope cl j M):M[k]? = some i->∃x,N'[j+k]? = some x/\X.N[i]? = some x/\(X.env.kindOf x=some .cell\/X.env.kindOf x=some .free) /\
  ((relabel scope X.env).names.lookup x=some .cell\/(relabel scope X.env).names.lookup x=some .free)/\cl.lookup x=X.env.cells.lookup x:=by
 induction h generalizing k with
 |nil _=>exact λe=>by simp at e
 |cons h1 h2 h3 h4 h5 _ n=>
  intro e;cases k with
  |zero=>simp at e;subst e;exact⟨_,h1,h2,h3,h4,h5⟩
  |succ k=>obtain⟨x,q,r⟩:=n (by simpa using e);exact⟨x,N9,r⟩
structure CompSc (X:Cx)(scope:Scope)(cl:List (Str×Addr)):Prop where
 clos:closureFor scope X.env=pure cl
 nocell:∀y∈scope.names,y.2≠.cell
 kind:scope.kind=.function
 names:∀y∈scope.names,y.2=.local->scope.names.lookup y.1=some .local
 sub:∀x c,cl.lookup x=some c->X.env.cells.lookup x=some c
 has:∀x,((relabel scope X.env).names.lookup x=some .cell\/(relabel scope X.env).names.lookup x=some .free)->∃c,cl.lookup x=some c
noncomputable def cc:List (Str×NameKind)->List (Str×Addr)->List (Str×Addr)->List (Str×Addr)
 |[],_,cs=>cs
 | (n,k)::r,cells,cs=>cc r cells (if k == .free then (match cells.lookup n with|some c=>(n,c)::cs|none=>cs)else cs)
def r0:∀names cs,(∀y∈names,y.2=.free->(env.cells.lookup y.1).isSome=true) ->
    (do let mut cs:=cs
        for (name,kind)in names do
          if kind == .free then cs:=(name,<-cellOf env name)::cs
        return cs:Sem (List (Str×Addr)))=pure (cc names env.cells cs):=by
  intro names;induction names with
  |nil=>intro cs z;rfl
  |cons y r M=>
    intro cs h;grind[cc,cellOf]
theorem kE:∀names cs,(∀y d,cs.lookup y=some d->cells.lookup y=some d)->(cc names cells cs).lookup x=some c->cells.lookup x=some c
 |[],cs,h,e=>h x c e
 | (n,k)::r,cs,h,e=>by
  refine kE r _ (λy d q=>?_) e;split at q
  .split at q
   .rename_i M ec;rw[lookup_cons]at q;split at q
    .rename_i hy;cases q
     rw[eq_of_beq hy];exact ec
    .exact h y d q
   .exact h y d q
  .exact h y d q
theorem r6:∀names cs,(cs.lookup x).isSome=true->((cc names cells cs).lookup x).isSome=true
 |[],cs,h=>h
 | (n,k)::r,cs,h=>by
  refine r6 r _ ?_;split
  .split
   .rw[lookup_cons];split
    .rfl
    .exact h
   .exact h
  .exact h
theorem kF:∀names cs,(x,NameKind.free)∈names->(cells.lookup x).isSome=true->((cc names cells cs).lookup x).isSome=true
 | (n,k)::r,cs,hm,hc=>by
  rcases vP hm with e|e
  .refine r6 r _ ?_;grind
  .exact kF r _ e hc
theorem eI {α:Type}{k:α}:∀ {l:List (Str×α)},l.lookup x=some k->(x,k)∈l
 | (n,j)::r,h=>by
  rw[lookup_cons]at h;split at h
  .simp_all
  .exact mZ _ (eI h)
def P2 {X:Cx}{scope:Scope}(h1:∀y∈scope.names,y.2≠.cell)(h2:scope.kind=.function)(h3:∀y∈scope.names,y.2=.local->scope.names.lookup y.1=some .local)(M:(scope.names.all λy=>!(y.2 == NameKind.free) || (X.env.cells.lookup y.1).isSome)=true):
  CompSc X scope (cc scope.names X.env.cells []):=by
 have h4:∀y∈scope.names,y.2=.free->(X.env.cells.lookup y.1).isSome=true:=λy hy e=>by
  grind
 have frees:∀x,((relabel scope X.env).names.lookup x=some .cell\/(relabel scope X.env).names.lookup x=some .free)->(x,NameKind.free)∈scope.names:=λx h=>by
  have:∃k,(x,k)∈(relabel scope X.env).names/\(k=.cell\/k=.free):=by
   grind[eI]
  grind[relabel]
 exact⟨r0 _ [] h4,h1,h2,h3,λx c e=>kE _ [] (λy d q=>by cases q) e,λx h=>by
  have:=kF _ [] (frees x h) (h4 _ (frees x h) r4);exact uV this⟩
def nQ {scope:Scope}(h:(x,NameKind.free)∈scope.names)(hc:(cells.lookup x).isSome=true):(cc scope.names cells []).lookup x=cells.lookup x:=by
 obtain⟨c,e⟩:=uV (kF _ [] h hc);grind[kE]
noncomputable def wu (O:Nat)(M:LN)(σ:St):St:=List.replicate O none++M.map λi=>(σ[i]?).join
noncomputable def g9 (O:Nat)(M:LN)(ρ:Env):Env:=List.replicate O none++M.map λi=>match ρ[i]? with|some (some (d,_))=>some (d,false)|_=>none
def ue {α:Type}{M:LN}{f:Nat->Option α}{v:α}(h:(List.replicate O none++M.map f)[j]? = some (some v)):∃k i,j=O+k/\M[k]? = some i/\f i=some v:=by
 by_cases hj:j<O
 .rw[getElem?_append_left (by simpa using hj),List.getElem?_replicate,if_pos hj]at h;cases h
 .rw[List.getElem?_append_right (by simpa using Nat.not_lt.mp hj),length_replicate,vB]at h;exact eB h λi h1 h2=>⟨j - O,i,N9,h1,h2⟩
def Ld {α:Type}{O:Nat}{M:LN}{f:Nat->Option α}{k i:Nat}{v:α}(h1:M[k]? = some i)(h2:f i=some v):(List.replicate O none++M.map f)[O+k]? = some (some v):=by
 rw[List.getElem?_append_right X9,length_replicate,vB,Nat.add_sub_cancel_left,h1];simp[h2]
set_option tactic.hygienic true in
def bQ.caps {K:Frag}(h:bQ K B σ ρ):bQ K B (wu O M σ) (g9 O M ρ):=⟨h.tb,λj d b q=>by
 obtain⟨k,i,rfl,h1,h2⟩:=ue q;split at h2
 .rename_i d' a e;cases h2
  obtain⟨v,g1,U⟩:=h.at' i _ _ e;exact⟨v,Ld h1 (by rw[g1];rfl),U⟩
 simp_all⟩
noncomputable def cF (tg:FG)(c:FT)(fe:FE)(ρ:Env):LD->Option LD
 |[]=>some []
 |d::r=>(tg d ρ).bind λM=>(c M).bind λb=>if b=true then (fe M).bind λx=>(cF tg c fe ρ r).map (x.1 :: ·)else cF tg c fe ρ r
@[simp] def Ez (tg)c(fe)ρ:cF tg c fe ρ []=some []:=by rw[cF]
@[simp] theorem jH tg c(fe)ρ(d)r:cF tg c fe ρ (d::r)=(tg d ρ).bind λM=>(c M).bind λb=>if b=true then (fe M).bind λx=>(cF tg c fe ρ r).map (x.1 :: ·)else cF tg c fe ρ r:=by rw[cF]
@[simp] def da (O:FA)(U:Nat)(M:LN)(tg:FG)(c:FT)(fe:FE):FE:=λρ=>(O ρ).bind λitems=>if items.length<=sizeLine then (cF tg c fe (g9 U M ρ) items).map λds=>(.lst ds,true)else none
def FJ (K:Frag)(n:Nat)(tg:FG)(g:TG):Prop:=∀(B H:Hp)(σ:St)(ρ O:Env)(v:V)(d:D)(Q:St->Hp->Prop),(∀i,i<n->ρ[i]? = some none)->bQ K B σ ρ->au B H->Is K B v d->tg d ρ=some O ->
 ρ.length=σ.length->(∀M,bQ K B M O->(∀U,bQ K U σ ρ->bQ K U M ρ)->ρ.length=M.length->Q M H)->g v σ H Q
def kG {K:Frag}{n i:Nat}(hi:i<n):FJ K n (nA i) (fu i):=by
 intro B H σ ρ U v d Q cl rep s h e hl k;cases e
 have O:i<σ.length:=by
  grind
 refine k _ ⟨rep.tb,λj e b q=>?_⟩ ?_ (by simpa using hl)
 .rcases bg q with⟨rfl,p⟩|⟨ne,p⟩
  .simp_all
  .obtain⟨w,h1,h2⟩:=rep.at' j e b p;simp_all
 .intro a M;refine⟨M.tb,λj e b q=>?_⟩;obtain⟨w,h1,h2⟩:=M.at' j e b q;have ne:i≠j:=λz=>by grind
  exact⟨w,by simp_all,h2⟩
def JC (X:Cx)(M:QD)(c:FT):Prop:=∀(aa:AO)(s:Shared)(σ:St)(H:Hp)(Q:Bool->Hp->Prop),Inv X aa σ H s->wk X.K c σ H Q ->
 wq X (forIn M true λc r=>if r=true then do let ok <-isTrue c X.env (eval c X.env);pure (ForInStep.yield ok)else pure (ForInStep.yield r)) (TP X aa σ Q) X.xe s
@[simp] def dN:FT:=λz=>some true
def jI:JC X [] dN:=by
 intro aa s σ H Q I h;refine cX λG g=>?_;obtain⟨B,ρ,c,M,rep,e,q⟩:=h;apply g;cases e
 exact wpAny_tests_nil ⟨H,I,q H (.refl H)⟩
def P4 (h:JT X e f):JC X [e] f:=λaa s σ H Q I q=>wpAny_tests_one (h _ s σ H Q I q)
inductive CI (Y:Cx)(tn:Nat->Heap->Prop)(fp:List Addr)(N1 H2:Hp)(κ:Env)(a:Addr)(l:List D->Option (List D))(items ds:List D)(s:Shared):Nat->Prop
 |mk (i:Nat) (N:Hp) (vs:List V) (es r:List D) (σ:St) (H:Hp) (I:Inv Y [] σ H s) (ti:tn i s.heap) (hn:∀b∈fp,H b=none) (hi:i<=items.length) (rp:bQ Y.K N1 σ κ) (hl:κ.length=σ.length)
   (x:Ext N1 N H2 H) (n0:N a=none) (h0:H a=some (.lst vs)) (vl:vs.length<=i) (iv:IsL Y.K N vs es) (er:l (items.drop i)=some r) (ed:es++r=ds):CI Y tn fp N1 H2 κ a l items ds s (items.length - i)
def Ext.both (x:Ext N1 N H2 H)(y:Ext N1 N' H H'):Ext N (join N N') H H'/\au N' (join N N'):=by
 refine⟨⟨y.hh,cS,λa o e=>?_,λa o e=>?_⟩,λa o e=>?_⟩
 .cases z:N a with
  |some u'=>rw[cS _ _ z]at e;cases e;exact y.hh _ _ (x.nh _ _ z)
  |none=>rw[cA z]at e;exact y.nh _ _ e
 .cases z:N a with
  |some u'=>rw[cS _ _ z]at e;simp_all
  |none=>
   rw[cA z]at e;exact(y.new a o e).elim (λM=>by rw[x.bn _ _ M]at z;cases z) .inr
 .exact(y.new a o e).elim (λz=>cS _ _ (x.bn _ _ z)) λz=>by rw[cA (x.nh.free z)];exact e
def Ext.off (x:Ext B N H H')(h:B a=none)(h':H a=some o):N a=none:=by
 cases z:N a with
 |none=>rfl
 |some u=>
  rcases x.new _ _ z with z|z
  .rw[h]at z;cases z
  simp_all
def CL (Y:Cx)(tn:Nat->Heap->Prop)(fp:List Addr)(N1 H2:Hp)(κ:Env)(a it:Addr)(tg U:Expr)(c:QD)(n:Nat)(ds:LD)(R:Result->Shared->Prop):Prop:=
 ∀s O H' N vs P,Inv Y [] O H' s->tn n s.heap->(∀b∈fp,H' b=none)->bQ Y.K N1 O κ->κ.length=O.length->Ext N1 N H2 H'->N a=none->H' a=some (.lst vs)->IsL Y.K N vs ds ->
  wpAny (model Y.prog Y.w) Y.A (pyNext (.ref it)) (λr M=>match r with
   |none=>R (.ok .next) M
   |some v=>wpAny (model Y.prog Y.w) Y.A (letOwnedTupleGo tg (.ref it) v) (λz=>wpAny (model Y.prog Y.w) Y.A (assign tg Y.env v) (λz=>GA (model Y.prog Y.w) Y.A c U Y.env (.ref a) Y.xe P) Y.xe) Y.xe M) Y.xe s
def E1 {Y:Cx}{zs:LD}(JZ:Y.calm=true)(hE:∀x s,Y.xe x s->notedBy (model Y.prog Y.w) Y.A Y.env (λx s=>R (.error x) s) x s)(hg:PG Y tg g)(FL:FJ Y.K nT gT g)(hc:JC Y lJ fc)(he:JE Y hU fe)(T:Turn Y.prog Y.w Y.K tg J fp it tn)(W6:∀i,i<nT->κ[i]? = some none)
  (J1:iq Y.K J N1 (items++zs)) (hsz:items.length<=sizeLine) (hD:H2 a=none) (Np:∀H',(∀b∈fp,H' b=none)->∀b∈fp,eZ Y [] H' b)
  (hL:CL Y tn fp N1 H2 κ a it tg hU lJ items.length ds R) (h:CI Y tn fp N1 H2 κ a (cF gT fc fe κ) items ds s items.length):
  codeAny (model Y.prog Y.w) Y.A (.compLoop (.ListComp hU [⟨tg,bN,lJ,0⟩] scope pos) 0 (.ref it) (.ref a) Y.env) R s:=by
 refine tZ hE (λn s=>CI Y tn fp N1 H2 κ a (cF gT fc fe κ) items ds s n) (λn s' h=>?_) _ h;refine cX λp q=>?_;obtain⟨i,N,vs,es,r,l,H',I',ti,hn,hi,rp,A6,x,OA,Nq,DT,Kn,er,S⟩:=h;apply q;clear q;have sH:au N1 H':=x.bn.trans x.nh;by_cases V:i<items.length
 .obtain⟨go,yl⟩:=(J1 i H' sH).1 items[i] (by rw[getElem?_append_left V];simp[V]);refine aV (T.item Y r4 r4 r4 JZ i [] s' l H' Y.xe I' (Np _ hn) ti go) λq s4 ⟨u,eu,hq⟩=>?_;subst eu;refine aV hq λ_ s5 ⟨xv,D,I5,rx,y5,t5,W4⟩=>?_;obtain⟨f,x5,i5⟩:=yl xv D y5;obtain⟨x6,c5⟩:=x.both x5;have E:(join N f) a=none:=x6.off OA Nq;have W:au (join N f) D:=x6.nh;rw[List.drop_eq_getElem_cons V]at er;unfold cF at er;refine eX er λj e1 er=>?_;refine eX er λb e2 er=>?_;have dZ:∀(F:Shared)(O:St)(k G:Hp)(U:LV)(X Z:LD),Inv Y (lK fp s5.heap) O k F->bQ Y.K N1 O κ->κ.length=O.length->Ext N1 G H2 k->G a=none->k a=some (.lst U) ->
    U.length<=i+1->IsL Y.K G U X->cF gT fc fe κ (items.drop (i+1))=some Z->X++Z=ds->∃m,m<items.length - i/\CI Y tn fp N1 H2 κ a (cF gT fc fe κ) items ds F m:=λF O k G U X Z H rp9 l9 x9 n9 h9 v9 i9 er9 ed9=>
   ⟨_,N9,i+1,G,U,X,Z,O,k,H.pins_of λp hp=>by simp at hp,T.keep _ _ _ t5 λb hb o e=>(H.pin (b,o) (mY _ (gz hb e))).1,λb hb=>by
    obtain⟨o,e,d⟩:=T.obj _ _ t5 b hb;exact(H.pin (b,o) (mY _ (gz hb e))).2.1,V,rp9,l9,x9,n9,h9,v9,i9,er9,ed9⟩
  refine aV (hg (lK fp s5.heap) s5 l D xv u (λM I=>I=D/\bQ Y.K (join N f) M j/\bQ Y.K N1 M κ/\κ.length=M.length) (I5.pinned (Np _ W4) (T.obj _ _ t5)) rx
   (FL (join N f) D l κ j xv items[i] _ W6 (rp.mono (x.bn.trans cS)) W (i5.mono c5) e1 A6 λσ1 r1 r2 l1=>⟨r4,r1,r2 N1 rp,l1⟩)) λ_ s6 ⟨M,I,I6,eH,W7,L,l6⟩=>?_
  subst eH;have ZI:I a=some (.lst vs):=x5.hh _ _ Nq;refine aV (hc _ s6 M I (λc t=>c=b/\au I t) I6 ⟨join N f,j,b,W,W7,e2,λt z=>⟨r4,z⟩⟩) λok s7 ⟨t,I7,eb,z⟩=>?_;subst eb;have x7:Ext N1 (join N f) H2 t:=(x.trans x6).trans (.grow W z);cases ok with
  |false=>
   exact dZ s7 M t (join N f) vs es r I7 L l6 x7 E (z _ _ ZI) (Nat.le_succ_of_le DT) (Kn.mono cS) er S
  |true=>
   rw[if_pos r4]at er |-;refine eX er λy e3 er=>?_;refine eB er λr' e4 er=>?_;subst er;refine aV (he _ s7 M t (λv P=>∃B,Ext (join N f) B t P/\Is Y.K B v y.1) I7 ⟨join N f,j,y.1,y.2,W.trans z,W7,e3,λv P B C i8 _=>⟨B,C,i8⟩⟩) λw8 s8 ⟨v8,P,I8,r8,B,C,i8⟩=>?_;refine aV (je _ s8 M P (.ref a) [v8] (.ref a) [w8] (λ_ k=>k=upd P a (.lst (vs++[v8]))) I8 r4 (.cons r8 .nil) ⟨_,vs,v8,r4,r4,C.hh _ _ (z _ _ ZI),N9,r4⟩) λ_ F ⟨_,k,H,_,e9⟩=>?_;subst e9;have Q:=C.off E (z _ _ ZI);exact dZ F M _ B (vs++[v8]) (es++[y.1]) r' H L l6 ((x7.trans C).upd hD Q) Q ae (by simp_all) ((Kn.mono (cS.trans C.bn)).append (.cons i8 .nil)) e4 (by rw[append_assoc];exact S)
 .obtain rfl:i=items.length:=N9
  rw[List.drop_eq_nil_of_le (vT _)]at er;cases er
  rw[uR]at S;subst S;exact hL _ _ _ _ _ _ I' ti hn rp A6 x OA Nq Kn
def E2 {Y:Cx}(O:Y.calm=true)(T:Turn Y.prog Y.w Y.K tg J fp it tn)(J1:iq Y.K J N1 items)(c:∀H',(∀b∈fp,H' b=none)->∀b∈fp,eZ Y [] H' b)
  (hR:∀U M H' N vs,Inv Y [] M H' U->Ext N1 N H2 H'->N a=none->H' a=some (.lst vs)->IsL Y.K N vs ds->R (.ok .next) U):CL Y tn fp N1 H2 κ a it tg hU lJ items.length ds R:=by
 intro s M H' N vs P d ti hn rp hl x e f g;refine aV (T.done Y r4 r4 r4 O items.length [] s M H' Y.xe d (c _ hn) ti ((J1 _ H' (x.bn.trans x.nh)).2 (vT _))) λq U ⟨hq,h⟩=>?_;subst hq;exact hR U M H' N vs h x e f g
def m9 {X:Cx}(JZ:X.calm=true){tg bN hU:Expr}{lJ:QD}{scope:Scope}{R:Pos}{cl:List (Str×Addr)}{N':LS}{G:Nat}{P:LN}{gT:FG}{g:TG}{fc:FT}{fe:FE}
  (S:CompSc X scope cl) (cp:hG X N' scope cl G P)
  (hg:∀C s H fp W,PG ((bG X N' scope cl C s H fp).wish W) tg g) (FL:FJ X.K G gT g) (hc:∀C s H fp W,JC ((bG X N' scope cl C s H fp).wish W) lJ fc) (he:∀C s H fp W,JE ((bG X N' scope cl C s H fp).wish W) hU fe)
  {aa:AO}{σ:St}{H2:Hp}{s2:Shared}{it:Addr}{fp:List Addr}{tn:Nat->Heap->Prop}{J:It}{N1:Hp}{ρ:Env}{items ds zs:LD}{E:QV}
  (f:Inv X aa σ H2 s2) (T:Turn X.prog X.w X.K tg J fp it tn) (FC:tn 0 s2.heap) (f2:∀b∈fp,eZ X aa H2 b)
  (rep:bQ X.K N1 σ ρ) (sN:au N1 H2) (J1:iq X.K J N1 (items++zs)) (hsz:items.length<=sizeLine) (ec:cF gT fc fe (g9 G P ρ) items=some ds) {RR:Value->Addr->Result->Shared->Prop}
  {EE:Addr->Addr->QV}(hE:∀n C x s,EE n C x s->notedBy (model X.prog X.w) X.A (compEnvC scope cl C X.env) (λx s=>RR (.ref n) C (.error x) s) x s)
  (hL:∀n C M t,H2 n=none->(∀H',(∀b∈fp,H' b=none)->∀b∈fp,eZ ((bG X N' scope cl C M t fp).wish (EE n C)) [] H' b) ->
   (∀pp s4 V H',Inv ((bG X N' scope cl C M t fp).wish (EE n C)) pp V H' s4->Inv X aa σ H' s4/\(∃m,s4.heap.Ns C m)/\eZ X aa H' C) ->
   (∀N vs H',Ext N1 N H2 H'->N n=none->H' n=some (.lst vs)->IsL X.K N vs ds->Ext N1 (upd N n (.lst vs)) H2 H'/\IsL X.K (upd N n (.lst vs)) vs ds) ->
   CL ((bG X N' scope cl C M t fp).wish (EE n C)) tn fp N1 H2 (g9 G P ρ) n it tg hU lJ items.length ds (RR (.ref n) C)):
  wq X (newList []) (λv7 M=>wq X (newFunctionEnv scope X.env.globals cl [] X.env.qual none .none (some X.env)) (λRA Z=>
   codeAny (model X.prog X.w) X.A (.compStart (.ListComp hU [⟨tg,bN,lJ,0⟩] scope R) 0 (.ref it) v7 { RA with scope:=relabel scope X.env }) (RR v7 RA.locals) Z) E M) E s2:=by
 refine wpAny_newObj_type (wpAny_newFunctionEnv S.nocell (by intro y hy;simp at hy) (λB U d=>?_) S.kind);dsimp only at U d |-;have L:H2 s2.z=none:=f.fresh;have D:=f.lnew (t':=s2.toks) (ys:=[]) (its:=[]) .nil (uO _);generalize hH3:s2.heap.push _=F at U d D |-;have hC:F.objs.size=s2.z+1:=by rw[<-hH3,Heap.size_push]
 have Nr:∀b o,s2.heap.get? b=some o->F.get? b=some o:=λb o e=>hH3 ▸ vZ _ e;have O:∀b o,F.get? b=some o->B.get? b=some o:=λb o e=>d.extBut b o (vS (vX e)) (vZ _ e);have Sf:∀b o,F.get? b=some o->b≠F.objs.size:=λb o e=>vS (vX e);have fpo:∀b∈fp,∃o,s2.heap.get? b=some o:=λb hb=>let ⟨o,e,_⟩:=T.obj 0 s2.heap FC b hb;⟨o,e⟩;have fpD:∀b∈fp,b≠s2.z:=λb hb=>let ⟨o,e⟩:=fpo b hb;vS (vX e);have fpC:∀b∈fp,b≠F.objs.size:=λb hb=>let ⟨o,e⟩:=fpo b hb;Sf b o (Nr b o e);have hHC:=D.hok.fresh (vT _);let Y:Cx:=(bG X N' scope cl F.objs.size { s2 with heap:=F } (upd H2 s2.z (.lst [])) fp).wish (EE s2.z F.objs.size);have ok:Y.Ok:=by
  refine⟨f.ok.mod,?_,f.ok.glob,f.ok.blt,vT _,λx y c e1 e2=>f.ok.inj x y c (S.sub x c e1) (S.sub y c e2),λx h=>S.has x h,λx c h=>absurd h uY,f.ok.hd,f.ok.frames,.inl r4,λb hb=>⟨fpC b hb,λx c e=>(f2 b hb).2.2.2.2.1 x c (S.sub x c e)⟩,λb o e=>?_,?_,λb o e hb=>?_,λb hb hz=>?_,D.stack,λb hb=>D.stkFree b hb⟩
  .show(relabel scope X.env).kind=.function;exact S.kind
  .exact D.bs b o e
  .exact vR D.ok.bsz D.sz
  .have h1:=(f2 b hb).2.2.2.1;rcases h1 with z|z
   .exact f.ok.noex b o e z
   .exact absurd (vQ (vX e) (vR f.ok.bsz z)) (Nat.lt_irrefl _)
  .rcases vP (f.stkSub b hz)with z|z
   .exact(f2 b hb).2.1 z
   .exact(f2 b hb).2.2.1 z
 have I4:Inv Y [] (wu G P σ) (upd H2 s2.z (.lst [])) { s2 with heap:=B,toks:=s2.toks+([]:List (Str×Value)).length }:=by
  refine⟨ok,r4,f.bare,Un.kept O,⟨_,U,λj x v e1 e2 e3=>?_⟩,λx c e=>?_,hHC,λx c e=>D.freeC x c (S.sub x c e),λp hp=>absurd (show p∈[]from hp) List.not_mem_nil,D.hok.kept O,?_⟩
  .obtain⟨k,i,rfl,h1,h2⟩:=ue e2;obtain⟨y,g1,g2,g3',g4,g5⟩:=cp.get h1;have e1':N'[G+k]? = some x:=e1;rw[g1]at e1';cases e1';have Km:σ[i]? = some (some v):=by
    cases q:σ[i]? with
    |none=>rw[q]at h2;cases h2
    |some z=>rw[q]at h2;have:z=some v:=h2;rw[this]
   obtain⟨m,_,hl⟩:=D.loc;obtain⟨u,r,l⟩:=hl i _ v g2 Km (g3'.elim (λz=>.inr (.inl z)) λz=>.inr (.inr z));refine⟨u,r,?_⟩;rcases l with⟨l,_⟩|⟨_,c,lc,ic⟩
   .simp_all
   .refine .inr ⟨g4,c,by show cl.lookup _=some c;simp_all,?_⟩;obtain⟨o,ho,hd⟩:=ic;exact⟨o,O _ _ ho,hd⟩
  .obtain⟨v,o,ho,hd⟩:=D.cell x c (S.sub x c e);exact⟨v,o,O _ _ ho,hd⟩
  .show(wu G P σ).length=N'.length;unfold wu;rw[cp.len];simp
 have I:∀M:Shared,M={ s2 with heap:=B,toks:=s2.toks+([]:List (Str×Value)).length }->codeAny (model Y.prog Y.w) Y.A (.compLoop (.ListComp hU [⟨tg,bN,lJ,0⟩] scope R) 0 (.ref it) (.ref s2.z) Y.env) (RR (.ref s2.z) F.objs.size) M:=by
  rintro M rfl;have fpY:∀H',(∀b∈fp,H' b=none)->∀b∈fp,eZ Y [] H' b:=λH' hn b hb=>⟨hn b hb,fpC b hb,ok.exfs b hb,.inl hb,λx c e=>(f2 b hb).2.2.2.2.1 x c (S.sub x c e),λp hp=>absurd (show p∈[]from hp) List.not_mem_nil⟩;refine E1 (Y:=Y) JZ (hE _ _) (hg _ _ _ _ _) FL (hc _ _ _ _ _) (he _ _ _ _ _) T (λi hi=>?_) J1 hsz L fpY (hL _ _ _ _ L fpY (λpp s4 V H' Q=>?_) λN vs H' x OA Nq Kn=>?_)
   ⟨0,N1,[],[],ds,wu G P σ,_,I4,T.keep _ _ _ FC λb hb o e=>O _ _ (Nr _ _ e),λb hb=>?_,uO _,rep.caps,?_,(Ext.refl sN).upd L (sN.free L),sN.free L,ae,uO _,.nil,by simpa using ec,r4⟩
  .simp_all[g9,getElem?_append_left]
  .obtain⟨m,hm,_⟩:=Q.loc;exact⟨f.call' (ch:=fp) Q.os ((Un.laid Nr (vT _) L).trans Q.base) Q.hok Q.bare λb hb=>⟨(f2 b hb).2.2.2.1,(f2 b hb).2.1,(f2 b hb).2.2.2.2.1,(f2 b hb).2.2.2.2.2⟩,⟨m,hm⟩,f.fpOk (by rw[hC];exact le_succ _) Q.free⟩
  .have k:au N (upd N s2.z (.lst vs)):=λa o e=>by grind[af]
   refine⟨⟨x.hh,x.bn.trans k,λa o e=>?_,λa o e=>?_⟩,Kn.mono k⟩
   .by_cases z:a=s2.z
    .simp_all[ae]
    .rw[af z]at e;exact x.nh _ _ e
   .by_cases z:a=s2.z
    .subst z;exact .inr L
    .rw[af z]at e;exact x.new _ _ e
  .rw[af (fpD b hb)];exact(f2 b hb).1
  .unfold g9 wu;simp
 exact codeAny_compStart_list (I _ r4) (T.self _ 0 _ _ _ (T.keep _ _ _ FC λb hb o e=>O _ _ (Nr _ _ e)) (I _ r4))
def PG.nox{tg:Expr}{t:TG}(h:PG X.nox tg t):PG X tg t:=λaa s σ H v u Q I r q=>
 wpAny_mono (h aa s σ H v u Q (I.wish _) r q) (λy y ⟨M,H',O,z⟩=>⟨M,H',O.unwish,z⟩) λy y z=>z.elim
def JC.nox{M:QD}{c:FT}(h:JC X.nox M c):JC X M c:=λaa s σ H Q I q=>
 wpAny_mono (h aa s σ H Q (I.wish _) q) (λy y ⟨H',O,z⟩=>⟨H',O.unwish,z⟩) λy y z=>z.elim
def pc {X:Cx}(M:X.calm=true){tg p h:Expr}{i:QD}{scope:Scope}{d:Pos}{cl:List (Str×Addr)}{N':LS}{e:Nat}{j:LN}{k:FG}{g:TG}{l:FT}{fe:FE}
  (S:CompSc X scope cl) (cp:hG X N' scope cl e j)
  (q:∀C s H fp,PG (bG X N' scope cl C s H fp) tg g) (r:FJ X.K e k g) (hc:∀C s H fp,JC (bG X N' scope cl C s H fp) i l) (he:∀C s H fp,JE (bG X N' scope cl C s H fp) h fe)
  {aa:AO}{σ:St}{H2:Hp}{s2:Shared}{it:Addr}{fp:List Addr}{tn:Nat->Heap->Prop}{J:It}{N1:Hp}{ρ:Env}{items ds:LD}{E:QV}
  (t:Inv X aa σ H2 s2) (T:Turn X.prog X.w X.K tg J fp it tn) (u:tn 0 s2.heap) (f2:∀b∈fp,eZ X aa H2 b)
  (rep:bQ X.K N1 σ ρ) (v:au N1 H2) (J1:iq X.K J N1 items) (hsz:items.length<=sizeLine) (ec:cF k l fe (g9 e j ρ) items=some ds) {RR:Value->Addr->Result->Shared->Prop}
  (f:∀(a C:Addr)(s':Shared)(H' N:Hp)(vs:LV)(m:SV),H2 a=none->Inv X aa σ H' s'->s'.heap.Ns C m->eZ X aa H' C->Ext N1 N H2 H'->N a=some (.lst vs)->IsL X.K N vs ds->RR (.ref a) C (.ok .next) s'):
  wq X (newList []) (λn O=>wq X (newFunctionEnv scope X.env.globals cl [] X.env.qual none .none (some X.env)) (λU c=>
   codeAny (model X.prog X.w) X.A (.compStart (.ListComp h [⟨tg,p,i,0⟩] scope d) 0 (.ref it) n { U with scope:=relabel scope X.env }) (RR n U.locals) c) E O) E s2:=by
 refine m9 (zs:=[]) (EE:=λZ Z Z Z=>False) M S cp (λC s H fp W=>PG.nox (X:=(bG X N' scope cl C s H fp).wish W) (q C s H fp)) r (λC s H fp W=>JC.nox (X:=(bG X N' scope cl C s H fp).wish W) (hc C s H fp)) (λC s H fp W=>PE.nox (X:=(bG X N' scope cl C s H fp).wish W) (he C s H fp)) t T u f2 rep v (by rw[uR];exact J1) hsz ec (λZ Z Z Z z=>z.elim) λa C O o y B D out=>E2 M T J1 B λF G H' N vs I x L P Q=>?_;obtain⟨R,⟨m,hm⟩,fC⟩:=D _ _ _ _ I;obtain⟨V,hl⟩:=out _ _ _ x L P Q;exact f a C F H' _ vs m y R hm fC V ae hl
def Le (M:X.calm=true)
  (S:CompSc X scope cl) (cp:hG X N' scope cl nT fU) (hi:JI X tg bN fi)
  (j:∀C s H fp,PG (bG X N' scope cl C s H fp) tg g) (U:FJ X.K nT gT g) (hc:∀C s H fp,JC (bG X N' scope cl C s H fp) lJ fc) (he:∀C s H fp,JE (bG X N' scope cl C s H fp) hU fe)
  (hs:∀x,foldedSetIterable bN X.env x=pure x:=by intro Z;rfl):
  JE X (.ListComp hU [⟨tg,bN,lJ,0⟩] scope pos) (da fi nT fU gT fc fe):=by
 intro aa s σ H Q I h;refine cX λG W=>?_;obtain⟨B,ρ,d,b,k,rep,e,q⟩:=h;refine eX e λitems ei e=>?_;apply W;have hsz:=Decidable.byContradiction λz=>by rw[if_neg z]at e;cases e
 rw[if_pos hsz]at e;refine eB e λds ec e=>?_;cases e
 refine wpAny_comprehension_free r4 hs S.clos S.kind S.names (aV (hi _ s σ H (λJ H2=>∃N1,Ext B N1 H H2/\iq X.K J N1 _) I ⟨B,ρ,items,k,rep,ei,λJ H2 N1 O a=>⟨N1,O,a⟩⟩) λv s1 h1=>aV h1 λD s2 h2=>?_);refine cX λG W=>?_;obtain⟨it,fp,tn,J,H2,e,l,T,n,f2,N1,O,a⟩:=h2;apply W;subst e;refine pc M S cp j U hc he l T n f2 (rep.mono O.bn) O.nh a hsz ec ?_;intro f C s' H' N vs m p r hm fC x i hl;refine⟨m,hm,λh' c=>⟨.ref f,H',?_,r4,q _ H' N (O.trans x) (.lst (dj.of i) hl) λZ=>⟨f,vs,ds,r4,r4,O.hh.free p,i,hl⟩⟩⟩;obtain⟨t,u,E,w,y,A⟩:=fC;exact r.turned (λb o hb e=>(c.2 b hb).trans e) t u w y A
def Lf (M:X.calm=true)
  (p:X.N.Nodup) (c:X.N[i]? = some y) (hy:X.env.kindOf y=some .local)
  (t:swapsWith (.ListComp hU [⟨tg,bN,lJ,0⟩] scope pos) (some (.Name y py)) spos.line X.env=pure true)
  (S:CompSc X scope cl) (cp:hG X N' scope cl nT fU) (hi:JI X tg bN fi)
  (u:∀C s H fp,PG (bG X N' scope cl C s H fp) tg g) (A:FJ X.K nT gT g) (hc:∀C s H fp,JC (bG X N' scope cl C s H fp) lJ fc) (he:∀C s H fp,JE (bG X N' scope cl C s H fp) hU fe)
  (hs:∀x,foldedSetIterable bN X.env x=pure x:=by intro _;rfl):
  JS X (.Assign [.Name y py] (.ListComp hU [⟨tg,bN,lJ,0⟩] scope pos) spos) (cI i (da fi nT fU gT fc fe)):=by
 intro aa s σ H E I h;have h2:=tY h;obtain⟨B,ρ,d,b,D,rep,e,q⟩:=h2;refine eX e λitems ei e=>?_;have hsz:=Decidable.byContradiction λz=>by rw[if_neg z]at e;cases e
 rw[if_pos hsz]at e;refine eB e λds ec e=>?_;cases e
 rw[exec_Assign_Name_used _ _ _ _ t];refine wX (wpAny_standAt (wX ?_));refine wX (wpAny_mono (wpAny_comprehension_free r4 hs S.clos S.kind S.names
  (aV (hi aa s σ H (λJ H2=>∃N1,Ext B N1 H H2/\iq X.K J N1 items) I ⟨B,ρ,items,D,rep,ei,λJ H2 N1 O f=>⟨N1,O,f⟩⟩) λv s1 h1=>aV h1 λZ7 s2 h2=>?_)) (λ_ s' hq=>wY (wY hq)) λ_ _ e=>e)
 obtain⟨it,fp,tn,J,H2,e,F,T,G,f2,N1,O,f⟩:=h2;subst e;refine pc M S cp u A hc he F T G f2 (rep.mono O.bn) O.nh f hsz ec ?_;intro j C s' H' N vs m L P hm fC x U hl;obtain⟨Q,l,c2,R,n,V⟩:=fC;refine wpAny_assign_Name (ra P p c (.inl hy) (r:=show aA (.ref j) (.ref j)from r4) (λW Y ⟨a,Z,ha⟩=>?_) (.inr hy));have nC:C≠a:=by
  rcases ha with z|z
  .rw[z];exact l
  .exact λw=>n y a z w.symm
 refine⟨m,hm.sameBut Z nC,λh' k=>⟨_,H',?_,q _ H' N (O.trans x) (.lst (dj.of U) hl) λ_=>⟨j,vs,ds,r4,r4,O.hh.free L,U,hl⟩⟩⟩;exact Y.turned (t':=W.toks) (λb o hb e=>(k.2 b hb).trans e) Q l R n V
section
variable {X:Cx}{a b c e:Expr}{pos:Pos}
def PE.to (h:PE X e t)(k:∀σ H Q,t' σ H Q->t σ H Q):PE X e t':=λaa s σ H Q I q=>h _ s σ H Q I (k σ H Q q)
def PT.to (h:PT X e t)(k:∀σ H Q,t' σ H Q->t σ H Q):PT X e t':=λaa s σ H Q I q=>h _ s σ H Q I (k σ H Q q)
def PW.to (h:PW X e t)(k:∀σ H Q,t' σ H Q->t σ H Q):PW X e t':=λM aa s σ H Q I q=>h M _ s σ H Q I (k σ H Q q)
def PA.to (h:PA X es t)(k:∀σ H Q,t' σ H Q->t σ H Q):PA X es t':=λpos aa s σ H Q I q=>h _ _ s σ H Q I (k σ H Q q)
def PS.to {st:Stmt}(h:PS X st t)(k:∀E σ H,t' E σ H->t E σ H):PS X st t':=λaa s σ H E I q=>h _ s σ H E I (k E σ H q)
def kj.to {st:List Stmt}(h:kj X st t)(k:∀E σ H,t' E σ H->t E σ H):kj X st t':=λaa s σ H E I q=>h _ s σ H E I (k E σ H q)
def PI.to (h:PI X tg it t)(k:∀σ H Q,t' σ H Q->t σ H Q):PI X tg it t':=λaa s σ H Q I q=>h _ s σ H Q I (k σ H Q q)
def E3 {K:Frag}(i:∀B,Is K B v d)(h:tD K (fC d) σ H Q):tC v σ H Q:=by
 refine cX λG g=>?_;obtain⟨B,ρ,d',b,s,r,e,q⟩:=h;apply g;cases e
 exact q.one s (i B)
def ah i(O:autoParam (X.N[i]? = some x) I9._auto_1)(U:Kf X.env.scope x:=by first|exact Or.inl r4|exact Or.inr (Or.inl r4)|exact Or.inr (Or.inr r4))(hd:autoParam (aS x) Z9._auto_1)
  (M:autoParam (km x) Z9._auto_1):JE X (.Name x pos) (ai i):=PE.to (aF O U hd M) λz z z h=>let⟨v,a,b⟩:=P0 h;⟨v,a,b⟩
def aL:JE X (.Constant (.int i) j pos) (fC (.int i)):=PE.to FQ λz z z=>E3 (λz=>.int i)
def gc:JE X (.Constant (.bool i) j pos) (fC (.bl i)):=PE.to Sv λz z z=>E3 (λz=>.bl i)
def jJ:JE X (.Constant .none j pos) (fC .non):=PE.to yF λz z z=>E3 (λz=>.non)
def aC:JE X (.Constant (.str x) j pos) (fC (.str x)):=PE.to t4 λz z z=>E3 (λz=>.str x)
def Lg (M:Gl X x)(hm:X.mg x=some u)(r:aA v u)(i:∀B,Is X.K B v d)(hd:autoParam (aS x) Z9._auto_1):JE X (.Name x pos) (fC d):=PE.to (cO M hm r hd) λz z z=>E3 i
def gd (M:bT X (binaryOp op) (rD X.K f))(ha:JE X a fa)(hb:JE X b O):JE X (.BinOp a op b pos) (f2 f fa O):=PE.to (A9 M ha hb) λz z z=>KY
def Tj (M:SN X (unaryOp op) (Yn X.K f))(ha:JE X a fa):JE X (.UnaryOp op a pos) (f1 f fa):=PE.to (SO M ha) λz z z=>Yo
def GB (M:bT X (compareOp op) (rD X.K f))(ha:JE X a fa)(hb:JE X b O)(hm:autoParam (behindInMarks op b=false) I9._auto_1):JE X (.Compare a [op] [b] pos) (f2 f fa O):=PE.to (K4 M ha hb hm) λz z z=>KY
set_option tactic.hygienic true in
def pd {K:Frag}(h:wk K (c8 f) σ H Q):tD K f σ H λx H'=>∃k,x=.bl k/\Q k H':=by
 refine cX λG g=>?_;obtain⟨B,ρ,c,s,r,e,q⟩:=h;apply g;unfold c8 at e;split at e
 .rename_i U M O;cases e
  refine⟨B,ρ,.bl c,M,s,r,O,λv H' N x i _=>?_⟩;cases i
  exact⟨c,r4,q H' x.hh⟩
 simp_all
def bw (M:bT X (compareOp op) (rD X.K f))(ha:JE X a fa)(hb:JE X b O)(hm:autoParam (behindInMarks op b=false) I9._auto_1):JT X (.Compare a [op] [b] pos) (c8 (f2 f fa O)):=
 PT.to (t8 M ha hb hm) λz z z h=>KY (pd h)
def dc (h:JE X e f)(he:∀M,isTrue e X.env M=(do let v <-M;standAt e.pos;holding [v] (truthy v)):=by intro z;rfl):JT X e (c8 f):=PT.to (OQ h he) λz z z=>pd
@[simp] noncomputable def lS (f g:D->D->OB)(fa M O:FE):FE:=λρ=>(fa ρ).bind λx=>(M ρ).bind λy=>match f x.1 y.1 with
 |some (.bl true,_)=>(O ρ).bind λz=>g y.1 z.1
 |some (.bl false,_)=>some (.bl false,false)
 |_=>none
set_option tactic.hygienic true in
def wv {K:Frag}{fa m n:FE}{σ:St}{H:Hp}{Q:VK}(h:tD K (lS f g fa m n) σ H Q):yK (rD K f) (rD K g) (tD K fa) (tD K m) (tD K n) σ H Q:=by
 refine cX λG W=>?_;obtain⟨B,ρ,d,b,s,r,e,q⟩:=h;refine eX e λx ex e=>?_;refine eX e λy p e=>?_;apply W;clear W;refine⟨B,ρ,x.1,x.2,s,r,ex,λv E N1 U i1 _=>⟨N1,ρ,y.1,y.2,U.nh,r.mono U.bn,p,λF H2 N2 M i2 _=>?_⟩⟩;split at e
 .rename_i i j;refine eX e λz t e=>?_;refine⟨N2,x.1,y.1,.bl _,i,M.nh,i1.mono M.bn,i2,j,λu w o O k _=>?_⟩;cases k
  refine⟨true,r4,?_⟩;refine⟨o,ρ,z.1,z.2,O.nh,r.mono (U.bn.trans (M.bn.trans O.bn)),t,λG I A l C _=>⟨A,y.1,z.1,d,b,l.nh,i2.mono (O.bn.trans l.bn),C,e,?_⟩⟩;exact q.into ((U.trans M).trans (O.trans l))
 .rename_i i j;cases e
  refine⟨N2,x.1,y.1,.bl _,i,M.nh,i1.mono M.bn,i2,j,λu w o O k _=>?_⟩;cases k
  refine⟨false,r4,?_⟩;exact(q.into ((U.trans M).trans O)).one O.nh (.bl _)
 simp_all
def GC (O:bT X (compareOp op) (rD X.K f))(M:bT X (compareOp U) (rD X.K g))(ha:JE X a fa)(hb:JE X b fb)(hc:JE X c fc)
  (hm:lastMarks [op,U] [b,c]=false):JE X (.Compare a [op,U] [b,c] pos) (lS f g fa fb fc):=PE.to (Gc O M ha hb hc hm) λz z z=>wv
def GD (O:bT X (compareOp op) (rD X.K f))(M:bT X (compareOp U) (rD X.K g))(ha:JE X a fa)(hb:JE X b fb)(hc:JE X c fc)
  (hm:lastMarks [op,U] [b,c]=false):JT X (.Compare a [op,U] [b,c] pos) (c8 (lS f g fa fb fc)):=PT.to (Gd O M ha hb hc hm) λz z z h=>wv (pd h)
def Lh {K:Frag}(h:wk K (gb f g) σ H Q):Sw (wk K f) (wk K g) σ H Q:=by
 refine cX λG W=>?_;obtain⟨B,ρ,c,s,r,e,q⟩:=h;apply W;unfold gb at e;cases M:f ρ with
 |none=>rw[M]at e;cases e
 |some k=>
  rw[M]at e;refine⟨B,ρ,k,s,r,M,λO h1=>?_⟩;cases k with
  |true=>exact⟨B,ρ,c,s.trans h1,r,e,λH2 h2=>q H2 (h1.trans h2)⟩
  |false=>simp_all
def P5 {K:Frag}(h:wk K (io f g) σ H Q):tOr (wk K f) (wk K g) σ H Q:=by
 refine cX λG W=>?_;obtain⟨B,ρ,c,s,r,e,q⟩:=h;apply W;unfold io at e;cases M:f ρ with
 |none=>rw[M]at e;cases e
 |some k=>
  rw[M]at e;refine⟨B,ρ,k,s,r,M,λO h1=>?_⟩;cases k with
  |false=>exact⟨B,ρ,c,s.trans h1,r,e,λH2 h2=>q H2 (h1.trans h2)⟩
  |true=>simp_all
def Li {K:Frag}(h:wk K (eF f) σ H Q):Sx (wk K f) σ H Q:=by
 refine cX λG g=>?_;obtain⟨B,ρ,c,s,r,e,q⟩:=h;apply g;refine eB e λk ek e=>?_;subst e;exact⟨B,ρ,k,s,r,ek,λM=>q M⟩
variable {bu:QD}
def nR (ha:JT X a f):JW X (.BoolOp .And [a] pos) f:=Ku ha
def gA (ha:JT X a f):JW X (.BoolOp .Or [a] pos) f:=OR ha
def ug (ha:JT X a f)(hb:JW X (.BoolOp .And (b::bu) pos) g):JW X (.BoolOp .And (a::b::bu) pos) (gb f g):=PW.to (OS ha hb) λz z z=>Lh
def kH (ha:JT X a f)(hb:JW X (.BoolOp .Or (b::bu) pos) g):JW X (.BoolOp .Or (a::b::bu) pos) (io f g):=PW.to (Sy ha hb) λz z z=>P5
def nB (h:JW X e f):JT X e f:=h.pt
def iu (ha:JT X a f):JT X (.UnaryOp .Not a pos) (eF f):=PT.to (OT ha) λz z z=>Li
@[simp] noncomputable def GF (f g:FE):FE:=λρ=>match f ρ with|some (.bl true,_)=>g ρ|some (.bl false,_)=>some (.bl false,false)|_=>none
@[simp] noncomputable def RU (f g:FE):FE:=λρ=>match f ρ with|some (.bl true,_)=>some (.bl true,false)|some (.bl false,_)=>g ρ|_=>none
@[simp] noncomputable def P6 (f:FE):FE:=λρ=>match f ρ with|some (.bl c,_)=>some (.bl (!c),false)|_=>none
def P7 (ha:JE X a f)(hb:JE X (.BoolOp .And (b::bu) pos) g):JE X (.BoolOp .And (a::b::bu) pos) (GF f g):=PE.to (OV ha hb) λσ H Q h=>by
 refine cX λG K=>?_;obtain⟨B,ρ,d,k,s,r,e,q⟩:=h;apply K;unfold GF at e;split at e
 .rename_i U O;refine⟨B,ρ,_,_,s,r,O,λv i N1 M i1 _=>?_⟩;cases i1
  exact⟨true,r4,⟨N1,ρ,d,k,M.nh,r.mono M.bn,e,q.into M⟩⟩
 .rename_i U O;cases e
  refine⟨B,ρ,_,_,s,r,O,λv i N1 M i1 _=>?_⟩;cases i1
  exact⟨false,r4,(q.into M).one M.nh (.bl _)⟩
 simp_all
def Tk (ha:JE X a f)(hb:JE X (.BoolOp .Or (b::bu) pos) g):JE X (.BoolOp .Or (a::b::bu) pos) (RU f g):=PE.to (SD ha hb) λσ H Q h=>by
 refine cX λG K=>?_;obtain⟨B,ρ,d,k,s,r,e,q⟩:=h;apply K;unfold RU at e;split at e
 .rename_i U O;cases e
  refine⟨B,ρ,_,_,s,r,O,λv i N1 M i1 _=>?_⟩;cases i1
  exact⟨true,r4,(q.into M).one M.nh (.bl _)⟩
 .rename_i U O;refine⟨B,ρ,_,_,s,r,O,λv i N1 M i1 _=>?_⟩;cases i1
  exact⟨false,r4,⟨N1,ρ,d,k,M.nh,r.mono M.bn,e,q.into M⟩⟩
 simp_all
def P8 (h:JE X a f):JE X (.BoolOp op [a] pos) f:=OU h
set_option tactic.hygienic true in
def P9 (ha:JE X a f):JE X (.UnaryOp .Not a pos) (P6 f):=PE.to (OW ha) λσ H Q h=>by
 refine cX λG K=>?_;obtain⟨B,ρ,d,k,s,r,e,q⟩:=h;apply K;unfold P6 at e;split at e
 .rename_i c U O;cases e
  refine⟨B,ρ,_,_,s,r,O,λv g N1 M i1 _=>?_⟩;cases i1
  exact⟨c,r4,(q.into M).one M.nh (.bl _)⟩
 simp_all
def NI (hc:JT X c U)(ha:JE X a f)(hb:JE X b g):JE X (.IfExp c a b pos) (RS U f g):=PE.to (FU hc ha hb) λσ H Q h=>by
 refine cX λG K=>?_;obtain⟨B,ρ,d,k,s,r,e,q⟩:=h;apply K;unfold RS at e;cases M:U ρ with
 |none=>rw[M]at e;cases e
 |some t=>
  rw[M]at e;refine⟨B,ρ,t,s,r,M,λO h1=>?_⟩;cases t with
  |true=>exact⟨B,ρ,d,k,s.trans h1,r,e,q.into (.grow s h1)⟩
  |false=>exact⟨B,ρ,d,k,s.trans h1,r,e,q.into (.grow s h1)⟩
variable {es:QD}
def aB:JA X [] aI:=PA.to aN λz z z=>La
def ag (ha:JE X e f)(M:JA X es g)(hs:autoParam (bE e es X.env) I9._auto_1):JA X (e::es) (ak f g):=PA.to (av ha M hs) λz z z=>G3
@[simp] noncomputable def cG:LD->OB:=λds=>if ds.length<=sizeLine then some (.tup ds,false)else none
@[simp] noncomputable def jz:LD->OB:=λds=>if ds.length<=sizeLine then some (.lst ds,true)else none
def fK(h:JA X es f):JE X (.Tuple es M pos) (fA cG f):=PE.to (tE h) λσ H Q q=>by
 refine cX λG K=>?_;obtain⟨B,ρ,ds,s,r,e,k⟩:=KZ q;apply K;refine⟨B,ρ,ds,s,r,e,λvs O N1 M i1=>cX λG K=>?_⟩;obtain⟨g,U,d,b,s2,i2,e2,k2⟩:=k vs O N1 M i1;apply K;unfold cG at e2;split at e2
 .rename_i hz;cases e2
  refine⟨by rw[i2.length];exact hz,λp hp=>k2 _ _ _ (.laid s2 hp) (.tup (dM.of ae) (i2.mono (Ext.laid s2 hp).bn)) X9⟩
 simp_all
def jK (h:JA X es f):JE X (.List es pos) (fA jz f):=PE.to (oM h) λσ H Q q=>by
 refine cX λG K=>?_;obtain⟨B,ρ,ds,s,r,e,k⟩:=KZ q;apply K;refine⟨B,ρ,ds,s,r,e,λvs O N1 U i1=>cX λG K=>?_⟩;obtain⟨g,M,d,b,s2,i2,e2,k2⟩:=k vs O N1 U i1;apply K;unfold jz at e2;split at e2
 .rename_i hz;cases e2
  refine⟨by rw[i2.length];exact hz,λp hp=>k2 _ _ _ (.laid s2 hp) (.lst (dj.of ae) (i2.mono (Ext.laid s2 hp).bn)) λ_=>⟨p,vs,M,r4,r4,hp,ae,i2.mono (Ext.laid s2 hp).bn⟩⟩
 simp_all
end
section
variable {X:Cx}
def gB (h:bT X f r)(k:∀x y H Q,U x y H Q->r x y H Q):bT X f U:=λaa s σ H x y v u Q I M O q=>h _ s σ H x y v u Q I M O (k x y H Q q)
noncomputable def Tl (f g:D->D->OB):D->D->OB:=λx y=>match f x y with|some r=>some r|none=>g x y
def pe (h:bT X s (rD X.K f))(h':bT X s (rD X.K g)):bT X s (rD X.K (Tl f g)):=by
 intro aa st σ H x y v u Q I M O q;refine eR q λB dx U d b a c i e q=>?_;unfold Tl at e;split at e
 .rename_i r j;cases e
  exact h _ st σ H x y v u Q I M O ⟨B,dx,U,_,_,a,c,i,j,q⟩
 .exact h' _ st σ H x y v u Q I M O ⟨B,dx,U,_,_,a,c,i,e,q⟩
@[simp] noncomputable def v0 (C:Int->Int->Bool)(g:Int->Int->D):D->D->OB
 |.int i,.int j=>if C i j=true then some (g i j,false)else none
 |_,_=>none
set_option tactic.hygienic true in
def gC (h:bT X s (rI C g))(M:∀i j,C' i j=true->C i j)(O:∀i j B,Is X.K B (g i j) (g' i j)):bT X s (rD X.K (v0 C' g')):=by
 refine gB h λx y H Q q=>eR q λB dx f d b U a c e q=>?_;cases a<;>try (cases e)
 cases c<;>try (cases e)
 rename_i i j;simp only[v0]at e;split at e
 .rename_i hc;cases e
  exact⟨i,j,r4,r4,M i j hc,q.one U (O i j B)⟩
 simp_all
set_option tactic.hygienic true in
def dE (h:bT X s (Ga g))(M:∀i j B,Is X.K B (g i j) (g' i j)):bT X s (rD X.K (v0 (λ_ _=>true) g')):=by
 refine gB h λx y H Q q=>eR q λB dx c d b O U a e q=>?_;cases U<;>try (cases e)
 cases a<;>try (cases e;done)
 rename_i i j;cases e
 exact⟨i,j,r4,r4,q.one O (M i j B)⟩
abbrev Yp:D->D->OB:=v0 (λz z=>true) λi j=>.int (i+j)
abbrev PB:D->D->OB:=v0 (λz z=>true) λi j=>.int (i - j)
abbrev Tn:D->D->OB:=v0 (λi j=>decide ((-18446744073709551616<i/\i<18446744073709551616)\/(-18446744073709551616<j/\j<18446744073709551616))) λi j=>.int (i*j)
abbrev E4:D->D->OB:=v0 (λz j=>decide (0<j/\j<1073741824)) λi j=>.int (i / j)
abbrev jL:D->D->OB:=v0 (λz j=>decide (0<j)) λi j=>.int (i % j)
abbrev To:D->D->OB:=v0 (λi j=>decide (0<=j/\j<=1000000/\i.natAbs<18446744073709551616)) λi j=>.int (i ^ j.toNat)
abbrev Yr:D->D->OB:=v0 (λz j=>decide (0<=j)) λi j=>.int (i / 2 ^ j.toNat)
abbrev Ys:D->D->OB:=v0 (λz z=>true) λi j=>.int (Builtin.bitAnd i j)
abbrev iLt:D->D->OB:=v0 (λz z=>true) λi j=>.bl (decide (i<j))
abbrev iLe:D->D->OB:=v0 (λz z=>true) λi j=>.bl (decide (i<=j))
abbrev Xo:D->D->OB:=v0 (λz z=>true) λi j=>.bl (decide (j<i))
abbrev PD:D->D->OB:=v0 (λz z=>true) λi j=>.bl (decide (j<=i))
def Tp:bT X (binaryOp .Add) (rD X.K Yp):=dE Pe λz z z=>.int _
def NJ:bT X (binaryOp .Sub) (rD X.K PB):=dE Pf λz z z=>.int _
def Tr:bT X (binaryOp .Mult) (rD X.K Tn):=gC Pg (λi j h=>by simp_all[Kz]) λz z z=>.int _
def GG:bT X (binaryOp .FloorDiv) (rD X.K E4):=gC K0 (λi j h=>by simp_all[SQ]) λz z z=>.int _
def AG:bT X (binaryOp .Mod) (rD X.K jL):=gC Ph (λz z=>mw) λz z z=>.int _
def Tt:bT X (binaryOp .Pow) (rD X.K To):=gC Pj (λi j h=>by simp_all[Ky]) λz z z=>.int _
def Tu:bT X (binaryOp .RShift) (rD X.K Yr):=gC Pm (λz z=>mw) λz z z=>.int _
def Tv:bT X (binaryOp .BitAnd) (rD X.K Ys):=dE Pn λz z z=>.int _
def Yt:bT X (compareOp .Lt) (rD X.K iLt):=dE SS λz z z=>.bl _
def Yu:bT X (compareOp .LtE) (rD X.K iLe):=dE SU λz z z=>.bl _
def Yv:bT X (compareOp .Gt) (rD X.K Xo):=dE SW λz z z=>.bl _
def Tw:bT X (compareOp .GtE) (rD X.K PD):=dE SX λz z z=>.bl _
@[simp] noncomputable def Yw (C:Str->Str->Bool)(g:Str->Str->D):D->D->OB
 |.str i,.str j=>if C i j=true then some (g i j,false)else none
 |_,_=>none
abbrev Yx:D->D->OB:=Yw (λi j=>decide (i.length+j.length<=sizeLine)) λi j=>.str (i++j)
abbrev sLe:D->D->OB:=Yw (λz z=>true) λi j=>.bl (!decide (j.cps.toList<i.cps.toList))
set_option tactic.hygienic true in
def PF:bT X (binaryOp .Add) (rD X.K Yx):=by
 refine gB yL λx y H Q q=>eR q λB dx a d b M O U e q=>?_;cases O<;>try (cases e)
 cases U<;>try (cases e)
 rename_i i j;simp only[Yw]at e;split at e
 .rename_i hc;cases e
  exact⟨i,j,r4,r4,mw hc,q.one M (.str _)⟩
 simp_all
def Tz:bT X (compareOp .LtE) (rD X.K sLe):=by
 intro aa s σ H x y v u Q I M O q;refine eR q λB dx f d b U a c e q=>?_;cases a<;>try (cases e)
 cases c<;>try (cases e;done)
 cases e
 obtain⟨t,rfl⟩:=M;obtain⟨t',rfl⟩:=O;exact PySem.P.le_str ⟨.bl _,H,I,r4,q.one U (.bl _)⟩
end
section
variable {X:Cx}{a b c e:Expr}{pos:Pos}{st:Stmt}{bu:List Stmt}
def fL:yY X [] b9:=kj.to c9 λz z z=>wm
def uh (h1:JS X st g)(h2:yY X bu h):yY X (st::bu) (bZ g h):=kj.to (aq h1 h2) λz z z=>AF
def du (h1:JS X st g):yY X [st] g:=bf h1
def j0{a b:List Stmt}(hc:JT X c M)(ha:yY X a g)(hb:yY X b h):JS X (.If c a b pos) (f6 M g h):=PS.to (fX hc ha hb) λz z z=>G6
def eJ (he:JE X e f):JS X (.Return (some e) pos) (cq f):=PS.to (fH he) λz z z=>nO
def Lj i(O:X.N[i]? = some x)(U:Kf X.env.scope x)(hd:aS x)
  (M:km x):JS X (.Return (some (.Name x p)) pos) (rz i):=PS.to (fH (aF O U hd M)) λz z z=>G7
def lT (M:X.N.Nodup)(he:JE X e f)(hi:autoParam (X.N[i]? = some x) I9._auto_1)(hx:FP X.env.scope x:=by first|exact Or.inl r4|exact Or.inr r4)(hs:autoParam (swapsWith e (some (.Name x p)) pos.line X.env=pure false) I9._auto_1)
  (hf:X.fn x=true\/X.env.scope.names.lookup x=some .local:=by first|exact .inl r4|exact .inr r4):JS X (.Assign [.Name x p] e pos) (cI i f):=PS.to (cm M hi hx he hs hf) λz z z=>tY
def Lk (M:X.N.Nodup)(he:JE X e f)(hi:X.N[i]? = some x)(hx:FP X.env.scope x)(hs:swapsWith e (some (.Name x p)) pos.line X.env=pure false)
  (hf:X.fn x=true\/X.env.scope.names.lookup x=some .local):JS X (.Assign [.Name x p] e pos) (G5 i f):=PS.to (cm M hi hx he hs hf) λz z z=>G8
def GH n(hp:PassesOwn (model X.prog X.w) X.A X.env X.xe)(hc:JT X c O)(hb:yY X M g):JS X (.While c M [] pos) (eG O g n):=PS.to (FZ hp hc hb) λz z z=>Ey
def PH (hp:PassesOwn (model X.prog X.w) X.A X.env X.xe)(hc:X.calm=true)(hi:JI X tg bN fi)(M:PG X tg t)(O:G9 X.K gT t)(hb:yY X U g)
  (hs:∀x,foldedSetIterable bN X.env x=pure x:=by intro z;rfl):JS X (.For tg bN U [] pos) (yX fi gT g):=PS.to (yI hp hc hi M hb hs) λz z z=>Lc O
def Ll (hp:PassesOwn (model X.prog X.w) X.A X.env X.xe)(hc:X.calm=true)(hi:PI X tg bN (P1 X.K fi))(M:PG X tg t)(O:G9 X.K gT t)(hb:yY X U g)
  (hs:∀x,foldedSetIterable bN X.env x=pure x:=by intro z;rfl):JS X (.For tg bN U [] pos) (f7 fi gT g):=PS.to (yI hp hc hi M hb hs) λz z z=>wt O
def PJ (he:JE X e f)(d:X.N[i]? = some x)(g:Kf X.env.scope x)(hd:aS x)
  (h:km x)
  (M:attributeBase (.Name x p) "append" X.env (eval (.Name x p) X.env)=eval (.Name x p) X.env)
  (U:m4 aO e X.env)
  (O:(aW.endLine == aO.line)=true) (hs:ce e X.env) (j:swapsWith (.Call (.Attribute (.Name x p) "append" aW) [e] [] aO) none pos.line X.env=pure false):
  JS X (.Expr (.Call (.Attribute (.Name x p) "append" aW) [e] [] aO) pos) (yW i f):=by
 refine PS.to (ft (oQ plainAttrs_list PySem.F.slot_list_append PySem.F.type_list_append je (aF d g hd h) (av he aN hs) M U O hs r4) j) λE σ H q=>?_;obtain⟨a,us,h1,h2,k⟩:=Lb q;exact⟨_,h1,.inl ⟨r4,us,dj.of h2⟩,k⟩
end
@[simp] noncomputable def f8 (g:FS)(n k:Nat):LD->OB:=λds=>if ds.length=n then
 match g (ds.map (λd=>some (d,false))++List.replicate k none) with
 |some (.rt d b)=>some (d,b)
 |some (.nx _)=>some (.non,false)
 |_=>none
 else none
inductive Id (K:Frag)(f:LD->OB)(vs:List V)(H:Hp)(Q:VK):Prop|mk (B:Hp)(ds:LD)(d:D)(b:Bool):(au B H/\Tb K B)->IsL K B vs ds->f ds=some (d,b)->Fin K B H d b Q->Id K f vs H Q
def PK (K:Frag)(f:LD->OB):Sp:=λvs H Q z=>Id K f vs H Q
def pf {K:Frag}{B H:Hp}{vs:LV}{ds:LD}{N:LS}(O:au B H)(tb:Tb K B)(i:IsL K B vs ds):cy K B H B H (L2.dD N vs) (ds.map (λd=>some (d,false))++List.replicate (N.length - vs.length) none):=by
 have M:∀(j:Nat)(d:D)(b:Bool),(ds.map (λd=>some (d,false))++List.replicate (N.length - vs.length) none:Env)[j]? = some (some (d,b))->b=false/\ds[j]? = some d:=λj d b e=>by
  by_cases hj:j<ds.length
  .rw[getElem?_append_left (by simpa using hj),vB]at e;refine eB e λd' h1 h2=>?_;cases h2
   exact⟨r4,h1⟩
  .rw[List.getElem?_append_right (by simpa using Nat.not_lt.mp hj),List.getElem?_replicate]at e;split at e<;>cases e
 have no:∀a,¬own (L2.dD N vs) (ds.map (λd=>some (d,false))++List.replicate (N.length - vs.length) none) a:=λa ⟨j,d,h,_⟩=>by
  obtain⟨z,y⟩:=M j d true h;cases z
 refine⟨O,tb,.refl O,?_,λj d e=>?_,λj d e=>?_,λj k a d e h=>?_⟩
 .unfold L2.dD;rw[vA,vA,vI,vI,length_replicate,length_replicate,i.length]
 .obtain⟨_,U⟩:=M j d false e;obtain⟨v,h1,h2⟩:=i.get U;refine⟨v,?_,h2.mono λa o e=>by rw[bF (no a)];exact e⟩;unfold L2.dD;have hj:=(vV h1).1;rw[getElem?_append_left (by simpa using hj),vB,h1]<;>rfl
 .obtain⟨z,_⟩:=M j d true e;cases z
 .obtain⟨z,_⟩:=M j d true h;cases z
section
variable {P:Program}{w:World}{K:Frag}{mg:SV}{base:Heap}
structure Fn (P:Program)(w:World)(K:Frag)(mg:Str->Option Value)(base:Heap)(k:Nat)(x:Str)(f:List D->OB):Prop where
 ex:∃(ad:Addr)(fd:FuncData)(ps:List Str),dI P w K mg base oR k ad fd ps (PK K f)/\mg x=some (.ref ad)/\PySem.W.keepIn K (.ref ad)=true/\cL K fd ps []
end
def Lm (F:Fn X.prog X.w X.K X.mg X.base k x f)(U:bB k X.A)(ha:JA X (e::es) fa)(a:autoParam (Gl X x) I9._auto_1)
  (M:autoParam (aS x) Z9._auto_1) (he:autoParam (bE e es X.env) I9._auto_1) (hpl:autoParam (dL pos es X.env) I9._auto_1):
  JE X (.Call (.Name x p) (e::es) [] pos) (fA f fa):=by
 refine cX λG W=>?_;obtain⟨ad,fd,ps,c,hm,hk,hb⟩:=F.ex;apply W;refine PE.to (fw c U a hm hk hb .nil rl ha M he hpl) λσ H Q q=>cX λG W=>?_;obtain⟨B,ρ,d,b,s,r,e,q⟩:=q;refine eX e λds ex e=>?_;apply W;exact⟨B,ρ,ds,s,r,ex,λvs g N1 O i1=>by
  rw[uR];exact⟨N1,ds,d,b,⟨O.nh,r.tb.mono O.bn⟩,i1,e,q.into O⟩⟩
@[simp] def ui a b:PySem.W.Fast.sEq a b=decide (a=b):=Bool.eq_iff_iff.mpr (PySem.W.Fast.sEq_iff.trans decide_eq_true_iff.symm)
mutual
noncomputable def ge:D->D->Bool
 |.non,.non=>true
 |.bl a,.bl b=>a == b
 |.bl a,.int b=>decide ((if a then 1 else 0)=b)
 |.int a,.bl b=>decide (a=(if b then 1 else 0))
 |.int a,.int b=>decide (a=b)
 |.str a,.str b=>PySem.W.Fast.sEq a b
 |.tup xs,.tup ys=>gD xs ys
 |.lst xs,.lst ys=>gD xs ys
 |_,_=>false
@[simp] noncomputable def gD:LD->LD->Bool
 |[],[]=>true
 |x::xs,y::ys=>ge x y && gD xs ys
 |_,_=>false
end
@[simp] theorem f9 a b:ge (.str a) (.str b)=decide (a=b):=by show PySem.W.Fast.sEq a b=_;simp [ui]
@[simp] def xx0:ge .non .non=true:=rfl
@[simp] def xx1 (a b:Bool):ge (.bl a) (.bl b)=(a == b):=rfl
@[simp] def xx2 (a b:Int):ge (.int a) (.int b)=decide (a=b):=rfl
@[simp] def xx3 (a b:LD):ge (.tup a) (.tup b)=gD a b:=rfl
@[simp] def xx4 (a b:LD):ge (.lst a) (.lst b)=gD a b:=rfl
@[simp] def xx5 (a:Str)(b:Int):ge (.str a) (.int b)=false:=rfl
@[simp] def xx6 (a:Int)(b:Str):ge (.int a) (.str b)=false:=rfl
@[simp] def xx12 (a:LD)(b:Str):ge (.lst a) (.str b)=false:=rfl
@[simp] noncomputable def bx:Nat->D->Bool
 |_,.non=>true
 |_,.bl _=>true
 |_,.int _=>true
 |_,.str _=>true
 |_,.ty _=>false
 |_,.dk _ _=>false
 |_,.dt _ _=>false
 |_,.ob _ _ _ _=>false
 |0,.tup _=>false
 |0,.lst _=>false
 |n+1,.tup ds=>ds.all (bx n)
 |n+1,.lst ds=>ds.all (bx n)
theorem ww:∀ {xs ys:LD},gD xs ys=true->xs.length=ys.length
 |[],[],_=>r4
 |x::xs,y::ys,h=>by
  simp at h;rw[vE,vE,ww h.2]
 |[],_::_,h=>by simp at h
 |_::_,[],h=>by simp at h
def uj (h:xs.length≠ys.length):gD xs ys=false:=by
 grind[ww]
theorem gE f:∀ {xs ys:LD},xs.length=ys.length->(∀j x y,xs[j]? = some x->ys[j]? = some y->f j=ge x y)->(List.range xs.length).all f=gD xs ys
 |[],[],_,_=>by simp
 |x::xs,y::ys,hl,h=>by
  rw[vE,List.range_succ_eq_map,all_cons,List.all_map,gD,<-h 0 x y r4 r4,<-gE _ (by simpa using hl) λj a b h1 h2=>h (j+1) a b (by simpa using h1) (by simpa using h2)];rfl
 |[],_::_,hl,_=>by simp at hl
 |_::_,[],hl,_=>by simp at hl
section
variable {X:Cx}{aa:AO}{σ:St}{H:Hp}{s:Shared}
def AH (I:Inv X aa σ H s)(h1:dM X.K H a vs)(h2:dj X.K H a ws):False:=by
 refine cX λG g=>?_;obtain⟨its,z,⟨o,e,c,z⟩,z⟩:=I.tuple h1;obtain⟨its',z,⟨o',M,O,U,z⟩,z⟩:=I.list h2;lia
def AI (I:Inv X aa σ H s)(e:s.heap.get? a=some o)(d:o.data=.seq its n):(∀ay ob,H a≠some (.dK ay ob))/\∀ay,H a≠some (.dT ay):=by
 refine⟨λay ob h=>?_,λay h=>?_⟩
 .refine cX λG g=>?_;obtain⟨z,z,z,z,z,o',es,M,O,z,d',z⟩:=(show aE _ _ H _ a _ from I.hok a _ h);apply g;clear g;simp_all
 .refine cX λG g=>?_;obtain⟨z,z,z,z,o',es,M,O,z,d',z⟩:=(show aE _ _ H _ a _ from I.hok a _ h);apply g;clear g;simp_all
def AJ (I:Inv X aa σ H s)(e:s.heap.get? a=some o)(d:o.data=.seq its n):∀C dx fs,H a≠some (.ins C dx fs):=λC dx fs h=>by
 obtain⟨z,z,z,M,z⟩:=(show aE _ _ H _ a _ from I.hok a _ h);rw[e]at M;cases M;cases d
def GI (I:Inv X aa σ H s)(h1:dM X.K H a vs):∀C dx fs,H a≠some (.ins C dx fs):=by
 refine cX λG g=>?_;obtain⟨its,z,⟨o,e,c,n,d⟩,z⟩:=I.tuple h1;apply g;exact AJ I e d
def GJ (I:Inv X aa σ H s)(h1:dj X.K H a vs):∀C dx fs,H a≠some (.ins C dx fs):=by
 refine I.lisE h1 λits z p z=>?_;obtain⟨o,e,c,n,d⟩:=p.isList;exact AJ I e d
def wx (I:Inv X aa σ H s)(h1:dM X.K H a vs):(∀ay ob,H a≠some (.dK ay ob))/\∀ay,H a≠some (.dT ay):=by
 refine cX λG g=>?_;obtain⟨its,z,⟨o,e,c,n,d⟩,z⟩:=I.tuple h1;apply g;exact AI I e d
def wy (I:Inv X aa σ H s)(h1:dj X.K H a vs):(∀ay ob,H a≠some (.dK ay ob))/\∀ay,H a≠some (.dT ay):=by
 refine I.lisE h1 λits z p z=>?_;obtain⟨o,e,c,n,d⟩:=p.isList;exact AI I e d
def AK (I:Inv X aa σ H s):∀(n:Nat){v:V}{d d':D},Is X.K H v d->Is X.K H v d'->bx n d=true->ge d d'=true:=by
 have M:∀ {p:D->Bool}(U:∀ {v:V}{d d':D},Is X.K H v d->Is X.K H v d'->p d=true->ge d d'=true) {vs:LV}{ds O:LD},IsL X.K H vs ds->IsL X.K H vs O->ds.all p=true->gD ds O=true:=by
  intro p U vs;induction vs with
  |nil=>intro ds O h h' z;cases h;cases h';rfl
  |cons v vs a=>
   intro ds O h h' hp;cases h with
   |cons h1 h2=>
    cases h' with
    |cons h3 h4=>
     rw[all_cons,vD]at hp;rw[gD,U h1 h3 hp.1,a h2 h4 hp.2];rfl
 intro n;induction n with
 |zero=>
  intro v d d' h h' hp;cases h<;>cases h'<;>first|(simp at hp;done)|simp
 |succ n U=>
  intro v d d' h h' hp;cases h with
  |tup h1 h2=>
   cases h' with
   |tup h3 h4=>
    rw[I.tuple_inj h3 h1]at h4;exact M U h2 h4 (by simpa [bx]using hp)
   |lst h3 h4=>exact(AH I h1 h3).elim
   |dk h3 _ _=>exact((wx I h1).1 _ _ h3).elim
   |dt h3 _ _=>exact((wx I h1).2 _ h3).elim
   |ob h3 _ _=>exact(GI I h1 _ _ _ h3).elim
  |lst h1 h2=>
   cases h' with
   |lst h3 h4=>
    rw[I.list_inj h3 h1]at h4;exact M U h2 h4 (by simpa [bx]using hp)
   |tup h3 h4=>exact(AH I h3 h1).elim
   |dk h3 _ _=>exact((wy I h1).1 _ _ h3).elim
   |dt h3 _ _=>exact((wy I h1).2 _ h3).elim
   |ob h3 _ _=>exact(GJ I h1 _ _ _ h3).elim
  |ty=>simp at hp
  |dk=>simp at hp
  |dt=>simp at hp
  |ob=>simp at hp
  |_=>cases h'<;>simp
def wz {A:Around}{p:D->Bool}(h:∀ {a b:V}{O U:D}{c e:Value},p O=true->p U=true->Is X.K H a O->Is X.K H b U->aA a c->aA b e->SeqAt.EqAt A s c e (ge O U))
  {vs ws:LV}{ds es:LD}{its M:LU}(i1:IsL X.K H vs ds) (i2:IsL X.K H ws es) (f:aD vs its) (g:aD ws M) (k:ds.all p=true) (p2:es.all p=true):
  ∀j (h1:j<its.toArray.size) (h2:j<M.toArray.size),SeqAt.EqAt A s its.toArray[j] M.toArray[j] (ge (ds.getD j .non) (es.getD j .non)):=by
 intro j h1 h2;rw[vH]at h1 h2;have l1:=f.length;have l2:=g.length;have l:=i1.length;have m:=i2.length;have n:j<vs.length:=N9
 have hw:j<ws.length:=N9
 have hd:j<ds.length:=N9
 have he:j<es.length:=N9
 refine cX λG W=>?_;obtain⟨u,o,q⟩:=f.get (i:=j) (x:=vs[j]) (by simp );obtain⟨u',e2,q2⟩:=g.get (i:=j) (x:=ws[j]) (by simp );obtain⟨v,r,t⟩:=i1.get (i:=j) (d:=ds[j]) (by simp );obtain⟨w,y,z⟩:=i2.get (i:=j) (d:=es[j]) (by simp );apply W;clear W;grind
def ul {xs ys:LD}j x y(h1:xs[j]? = some x)(h2:ys[j]? = some y):ge (xs.getD j .non) (ys.getD j .non)=ge x y:=by
 simp[h1,h2]
abbrev T2 (A:Around)(s:Shared)(M O:Value)(b:Bool):Prop:=SeqAt.RcAt A s M O b/\SeqAt.EqAt A s M O b/\SeqAt.RcNeAt A s M O (!b)
def AL {a1 a2:Addr}(rc:SeqAt.RcAt A s (.ref a1) (.ref a2) b)(M:SeqAt.RcNeAt A s (.ref a1) (.ref a2) (!b))(h:a1=a2->b=true):T2 A s (.ref a1) (.ref a2) b:=by
 grind[SeqAt.EqAt.same,SeqAt.EqAt.of_refs]
def iz:Bool->Heap->Addr->AV->Prop
 |true,h,a,items=>h.IsList a items
 |false,h,a,items=>h.IsTuple a items
def w5 (U:bx 0 d1=true)(p2:bx 0 d2=true)(i1:Is X.K H v1 d1)(i2:Is X.K H v2 d2)(M:aA v1 u1)(O:aA v2 u2):T2 A s u1 u2 (ge d1 d2):=by
 cases i1<;>try (cases U;done)
 all_goals (first|(cases M;done)|obtain⟨t,rfl⟩:=M)
 all_goals (cases i2<;>try (cases p2;done))
 all_goals (first|(cases O;done)|obtain⟨t',rfl⟩:=O)
 all_goals (refine⟨?_,?_,?_⟩)
 exact .none_none;exact .same _;exact .none_none;iterate 3 exact .none_bool _
 iterate 3 exact .none_int _ _
 iterate 3 exact .none_str _ _
 iterate 3 exact .bool_none _
 iterate 3 exact .bool_bool _ _
 iterate 3 exact .bool_int _ _ _
 iterate 3 exact .bool_str _ _ _
 iterate 3 exact .int_none _ _
 iterate 3 exact .int_bool _ _ _
 iterate 3 exact .int_int _ _ _ _
 iterate 3 exact .int_str _ _ _ _
 iterate 3 exact .str_none _ _
 iterate 3 exact .str_bool _ _ _
 iterate 3 exact .str_int _ _ _ _
 iterate 3 (rw[f9];exact .str_str _ _ _ _)
def nU (M:A.units<cLine)(h1:iz k s.heap a its)(p2:bx 0 d2=true)(i2:Is X.K H v2 d2)(O:aA v2 U):T2 A s (.ref a) U false/\T2 A s U (.ref a) false:=by
 cases i2<;>try (cases p2;done)
 all_goals (first|(cases O;done)|obtain⟨t,rfl⟩:=O)
 all_goals (cases k<;>refine⟨⟨?_,?_,?_⟩,?_,?_,?_⟩)
 iterate 3 exact .tuple_none h1 M
 iterate 3 exact .none_tuple h1 M
 iterate 3 exact .list_none h1 M
 iterate 3 exact .none_list h1 M
 iterate 3 exact .tuple_bool _ h1 M
 iterate 3 exact .bool_tuple _ h1 M
 iterate 3 exact .list_bool _ h1 M
 iterate 3 exact .bool_list _ h1 M
 iterate 3 exact .tuple_int _ _ h1 M
 iterate 3 exact .int_tuple _ _ h1 M
 iterate 3 exact .list_int _ _ h1 M
 iterate 3 exact .int_list _ _ h1 M
 iterate 3 exact .tuple_str _ _ h1 M
 iterate 3 exact .str_tuple _ _ h1 M
 iterate 3 exact .list_str _ _ h1 M
 iterate 3 exact .str_list _ _ h1 M
set_option tactic.hygienic true in
def NK (I:Inv X aa σ H s):∀(n:Nat){A:Around}{i l:V}{f g:D}{m o:Value},A.units+n<cLine->bx n f=true->bx n g=true->Is X.K H i f->Is X.K H l g->aA i m->aA l o->T2 A s m o (ge f g):=by
 intro n;induction n with
 |zero=>exact λ_ c p2 i1 i2 U d=>w5 c p2 i1 i2 U d
 |succ n B=>
  intro A i l f g m o hu c p2 i1 i2 U d;have M:A.units<cLine:=N9
  have q:∀ {i l:V}{f g:D}{m o:Value},bx n f=true->bx n g=true->Is X.K H i f->Is X.K H l g->aA i m->aA l o->SeqAt.EqAt A.in1 s m o (ge f g):=λc p2 i1 i2 U d=>(B (A:=A.in1) (by show A.units+1+n<cLine;lia) c p2 i1 i2 U d).2.1;have off:∀ {a b:D},bx 0 a=true->¬bx 0 b=true->ge a b=false/\ge b a=false:=λ{a b} h h'=>by
   cases a<;>try (cases h;done)
   all_goals (cases b<;>first|exact(h' r4).elim|exact⟨r4,r4⟩)
  by_cases f2:bx 0 g=true
  .by_cases f1:bx 0 f=true
   .exact w5 f1 f2 i1 i2 U d
   .rw[(off f2 f1).2];cases i1 with
    |tup h1=>
     cases U
     refine I.tupE h1 λits _ t1 _=>?_;exact(nU (k:=false) M t1 f2 i2 d).1
    |lst h1=>
     cases U
     refine I.lisE h1 λits _ t1 _=>?_;exact(nU (k:=true) M t1.isList f2 i2 d).1
    |_=>simp at f1 c
  .by_cases f1:bx 0 f=true
   .rw[(off f1 f2).1];cases i2 with
    |tup h1=>
     cases d
     refine I.tupE h1 λits _ t1 _=>?_;exact(nU (k:=false) M t1 f1 i1 U).2
    |lst h1=>
     cases d
     refine I.lisE h1 λits _ t1 _=>?_;exact(nU (k:=true) M t1.isList f1 i1 U).2
    |_=>simp at f2 p2
   .cases i2 with
    |tup h2 k2=>
     cases d
     refine I.tupE h2 λr t t2 C=>?_;cases i1 with
     |tup h1 k1=>
      cases U
      refine I.tupE h1 λits O t1 v=>?_;rename_i a2 ws es a1 vs ds;have he:=wz (A:=A.in1) (p:=bx n) q k1 k2 O t (by simpa using c) (by simpa using p2);have w:((List.range (min its.toArray.size r.toArray.size)).all (λj=>ge (ds.getD j .non) (es.getD j .non)) && its.toArray.size == r.toArray.size)=ge (.tup ds) (.tup es):=by
       show _=gD ds es;rw[vH,vH,<-O.length,<-t.length,k1.length,k2.length];by_cases hl:ds.length=es.length
       .rw[<-hl,Nat.min_self,beq_self_eq_true,Bool.and_true];exact gE _ hl λj x y z e2=>ul j x y z e2
       simp_all[uj]
      have rc:=SeqAt.RcAt.tuples t1 t2 M he;have u:=SeqAt.RcNeAt.tuples t1 t2 M he;rw[w]at rc u;exact AL rc u λe=>by subst e;exact AK I (n+1) (.tup h1 k1) (.tup h2 k2) c
     |lst h1 k1=>
      cases U
      refine I.lisE h1 λits O t1 v=>?_;refine⟨?_,?_,?_⟩<;>exact .list_tuple t1.isList t2 M
     |_=>simp at f1 c
    |lst h2 k2=>
     cases d
     refine I.lisE h2 λr t t2 C=>?_;replace t2:=t2.isList;cases i1 with
     |lst h1 k1=>
      cases U
      refine I.lisE h1 λits O t1 v=>?_;replace t1:=t1.isList;rename_i a2 ws es a1 vs ds;have he:=wz (A:=A.in1) (p:=bx n) q k1 k2 O t (by simpa using c) (by simpa using p2);have both:SeqAt.RcAt A s (.ref a1) (.ref a2) (ge (.lst ds) (.lst es))/\SeqAt.RcNeAt A s (.ref a1) (.ref a2) (!ge (.lst ds) (.lst es)):=by
       have hz:its.toArray.size=ds.length/\r.toArray.size=es.length:=by rw[vH,vH,<-O.length,<-t.length,k1.length,k2.length];simp
       by_cases hl:ds.length=es.length
       .have w:(List.range its.toArray.size).all (λj=>ge (ds.getD j .non) (es.getD j .non))=ge (.lst ds) (.lst es):=by
         show _=gD ds es;rw[hz.1];exact gE _ hl λj x y z e2=>ul j x y z e2
        have hs:=(hz.1.trans hl).trans hz.2.symm;have rc:=SeqAt.RcAt.lists t1 t2 hs M he;have u:=SeqAt.RcNeAt.lists t1 t2 hs M he;rw[w]at rc u;exact⟨rc,u⟩
       .have hs:(its.toArray.size != r.toArray.size)=true:=by simp_all
        rw[show ge (.lst ds) (.lst es)=false from uj hl];exact⟨.lists_lengths t1 t2 hs M,.lists_lengths t1 t2 hs M⟩
      exact AL both.1 both.2 λe=>by subst e;exact AK I (n+1) (.lst h1 k1) (.lst h2 k2) c
     |tup h1 k1=>
      cases U
      refine I.tupE h1 λits O t1 v=>?_;refine⟨?_,?_,?_⟩<;>exact .tuple_list t1 t2 M
     |_=>simp at f1 c
    |_=>simp at f2 p2
@[simp] def jM:D->D->OB:=λx y=>if bx 40 x=true/\bx 40 y=true then some (.bl (ge x y),false)else none
@[simp] def i6:D->D->OB:=λx y=>if bx 40 x=true/\bx 40 y=true then some (.bl (!ge x y),false)else none
def w6 (hu:X.A.units+40<cLine):bT X (compareOp .Eq) (rD X.K jM):=by
 intro aa s σ H x y v u Q I O U q;refine eR q λB dx f d b M a c e q=>?_;unfold jM at e;split at e
 .rename_i hp;cases e
  exact(NK I 40 hu hp.1 hp.2 (a.mono M) (c.mono M) O U).1 _ _ _ _ ⟨.bl _,H,I,r4,q.one M (.bl _)⟩
 simp_all
def jx (hu:X.A.units+40<cLine):bT X (compareOp .NotEq) (rD X.K i6):=by
 intro aa s σ H x y v u Q I O U q;refine eR q λB dx f d b M a c e q=>?_;unfold i6 at e;split at e
 .rename_i hp;cases e
  exact(NK I 40 hu hp.1 hp.2 (a.mono M) (c.mono M) O U).2.2 _ _ _ _ ⟨.bl _,H,I,r4,q.one M (.bl _)⟩
 simp_all
end
section
variable {X:Cx}{a b e:Expr}{pos:Pos}
def AM {K:Frag}(h:IsL K H vs ds)(e:qL ds i=some d):∃v,qL vs i=some v/\Is K H v d:=by
 unfold qL at e |-;rw[h.length];cases q:NE _ i with
 |none=>rw[q]at e;cases e
 |some j=>rw[q]at e;exact h.get e
@[simp] noncomputable def eY:D->D->OB
 |.lst ds,.int i=>(qL ds i).map λd=>(d,false)
 |.tup ds,.int i=>(qL ds i).map λd=>(d,false)
 |.str z,.int i=>if z.length<=sizeLine then (qL z.cps.toList i).map λc=>(.str ⟨#[c]⟩,false)else none
 |_,_=>none
set_option tactic.hygienic true in
def Yy:Pr X (rD X.K eY):=by
 intro U f aa s σ H x y v u Q I g j q hs;refine eR q λB dx m d b M k l e q=>?_;cases k<;>try (cases e)
 all_goals (cases l<;>try (cases e))
 .simp only[eY]at e;split at e
  .rename_i hz;refine eB e λc O e2=>?_;cases e2
   exact Gn _ _ _ s σ H _ _ v u Q I g j ⟨_,_,c,r4,r4,hz,O,q.one M (.str _)⟩ hs
  simp_all
 .rename_i h hl i;refine eB e λc O e2=>?_;cases e2
  obtain⟨w,h1,h2⟩:=AM hl O;exact tI _ _ _ s σ H _ _ v u Q I g j ⟨_,_,_,w,r4,r4,aG M h,h1,q.one M h2⟩ hs
 .rename_i h hl i;refine eB e λc O e2=>?_;cases e2
  obtain⟨w,h1,h2⟩:=AM hl O;exact KN _ _ _ s σ H _ _ v u Q I g j ⟨_,_,_,w,r4,r4,M.seq h,h1,q.one M h2⟩ hs
def cj (ha:JE X a fa)(hb:JE X b M)(hs:k7 b:=by intro z z;rfl):JE X (.Subscript a b pos) (f2 eY fa M):=PE.to (Gm Yy ha hb hs) λz z z=>KY
abbrev FO:=Env->Option OI
inductive JU (K:Frag)(f:FO)(σ:St)(H:Hp)(Q:Option Int->Hp->Prop):Prop|mk (B:Hp)(ρ:Env)(o:OI):au B H->bQ K B σ ρ->f ρ=some o->(∀H',au H H'->Q o H')->JU K f σ H Q
def tDO (K:Frag)(f:FO):TO:=λσ H Q=>JU K f σ H Q
abbrev JO (X:Cx)(e:Option Expr)(f:FO):Prop:=PO X e (tDO X.K f)
@[simp] def kI:FO:=λz=>some none
@[simp] noncomputable def j4 (f:FE):FO:=λρ=>match f ρ with|some (.int i,_)=>some (some i)|_=>none
def nV:JO X none kI:=λaa s σ H Q I h=>KG _ s σ H Q I (by
 refine cX λG g=>?_;obtain⟨B,ρ,o,M,r,e,q⟩:=h;apply g;cases e
 exact q H (.refl H))
set_option tactic.hygienic true in
def nW (h:JE X e f):JO X (some e) (j4 f):=λaa s σ H Q I q=>KH h _ s σ H Q I (by
 refine cX λG g=>?_;obtain⟨B,ρ,o,M,r,e,q⟩:=q;apply g;unfold j4 at e;split at e
 .rename_i i d O;cases e
  refine⟨B,ρ,_,_,M,r,O,λv U N1 c i1 _=>?_⟩;cases i1
  exact⟨i,r4,q U c.hh⟩
 simp_all)
def um (ds:LD)(lo hi:OI):LD:=(ds.drop (HT.cH ds.length 0 lo)).take (HT.cH ds.length ds.length hi - HT.cH ds.length 0 lo)
def uo {K:Frag}{lo hi:OI}(h:IsL K H vs ds):IsL K H (qK vs lo hi) (um ds lo hi):=by
 unfold qK um;rw[h.length];exact(h.drop _).take _
def aY.to (h:aY X f r)(k:∀xs H Q,O xs H Q->r xs H Q):aY X f O:=λaa s σ H xs us Q I M q=>h _ s σ H xs us Q I M (k xs H Q q)
variable {es:QD}{x:Str}{p:Pos}{id T:String}
def de (hc:aY X (.builtin id) (wl X.K f))(hm:X.mg x=none)(O:bootBuiltins x=some (.builtin id))(ha:JA X (e::es) fa)(U:autoParam (Gl X x) I9._auto_1)(hn:autoParam (x ≠ "__name__") Z9._auto_1)(M:autoParam (aS x) Z9._auto_1)
  (he:autoParam (bE e es X.env) I9._auto_1) (hpl:autoParam (dL pos es X.env) I9._auto_1):JE X (.Call (.Name x p) (e::es) [] pos) (fA f fa):=PE.to (hV hc U hm O ha hn M he hpl) λz z z=>KZ
def dU (hc:aY X (.type T) (wl X.K f))(hm:X.mg x=none)(O:bootBuiltins x=some (.type T))(ha:JA X (e::es) fa)(U:autoParam (Gl X x) I9._auto_1)(hn:autoParam (x ≠ "__name__") Z9._auto_1)(M:autoParam (aS x) Z9._auto_1)
  (he:autoParam (bE e es X.env) I9._auto_1) (hpl:autoParam (dL pos es X.env) I9._auto_1):JE X (.Call (.Name x p) (e::es) [] pos) (fA f fa):=PE.to (lN hc U hm O ha hn M he hpl) λz z z=>KZ
@[simp] noncomputable def cU:LD->OB
 |[.lst ds]=>some (.int ds.length,false)
 |[.tup ds]=>some (.int ds.length,false)
 |[.str z]=>if z.length<=sizeLine then some (.int z.length,false)else none
 |_=>none
set_option tactic.hygienic true in
def mB:aY X (.builtin "len") (wl X.K cU):=by
 refine aY.to (aY.or tL tN) λxs H Q q=>e6 q λB ds d b M i e q=>?_;cases i with
 |nil=>simp at e
 |cons i1 i2=>
  cases i2 with
  |cons _ _=>cases i1<;>simp at e
  |nil=>
   cases i1<;>try (simp at e;done)
   .simp only[cU]at e;split at e
    .rename_i hz;cases e
     exact .inr ⟨_,r4,hz,q.one M (.int _)⟩
    simp_all
   .rename_i h hl;cases e
    refine .inl ⟨_,_,r4,.inr (aG M h),?_⟩;rw[hl.length];exact q.one M (.int _)
   .rename_i h hl;cases e
    refine .inl ⟨_,_,r4,.inl (M.seq h),?_⟩;rw[hl.length];exact q.one M (.int _)
def AN (hm:X.mg x=none)(M:bootBuiltins x=some (.type n))(O:autoParam (Gl X x) I9._auto_1)(hn:autoParam (x ≠ "__name__") Z9._auto_1)(hd:autoParam (aS x) Z9._auto_1):JE X (.Name x pos) (fC (.ty n)):=
 PE.to (t6 O hm M (v:=.ty n) r4 hn hd) λz z z=>E3 (λz=>.ty n)
end
def gg (M:bB k A):A.units+40<cLine:=by have:=M.un;lia
section
variable {X:Cx}{a b e:Expr}{pos:Pos}{x:Str}{p:Pos}
def kJ (h:∃u v,X.mg x=some u/\aA v u/\∀B,Is X.K B v d)(M:autoParam (Gl X x) I9._auto_1)(hd:autoParam (aS x) Z9._auto_1):JE X (.Name x pos) (fC d):=by
 obtain⟨u,v,hm,r,i⟩:=h;exact Lg M hm r i hd
@[simp] noncomputable def T3:D->D->OB
 |.int i,.int j=>some (.int (i+j),false)
 |.str i,.str j=>if i.length+j.length<=sizeLine then some (.str (i++j),false)else none
 |_,_=>none
def Ln:bT X (binaryOp .Add) (rD X.K T3):=by
 refine gB (pe Tp PF) λx y H Q q=>eR q λB dx M d b O U c e q=>?_;refine⟨B,dx,M,d,b,O,U,c,?_,q⟩;cases dx<;>try (cases e)
 all_goals (cases M<;>try (done))
 all_goals simp_all[Tl]
@[simp] def lU:D->D->OB:=Tn
def PL:bT X (binaryOp .Mult) (rD X.K lU):=Tr
@[simp] def NL:D->D->OB:=iLt
def NM:bT X (compareOp .Lt) (rD X.K NL):=Yt
@[simp] noncomputable def Yz:D->D->OB
 |.int i,.int j=>some (.bl (decide (i<=j)),false)
 |.str i,.str j=>some (.bl (!decide (j.cps.toList<i.cps.toList)),false)
 |_,_=>none
def T4:bT X (compareOp .LtE) (rD X.K Yz):=by
 refine gB (pe Yu Tz) λx y H Q q=>eR q λB dx M d b O U c e q=>?_;refine⟨B,dx,M,d,b,O,U,c,?_,q⟩;cases dx<;>try (cases e)
 all_goals (cases M<;>try (done))
 all_goals simp_all[Tl]
@[simp] noncomputable def T5:D->OB
 |.int i=>some (.int (-i),false)
 |_=>none
def T6:SN X (unaryOp .USub) (Yn X.K T5):=by
 intro aa s σ H x v Q I M q;refine cX λG g=>?_;obtain⟨B,dx,d,b,O,U,e,q⟩:=q;apply g;cases U<;>try (simp at e;done)
 cases e
 exact Po _ s σ H _ v Q I M ⟨_,r4,q.one O (.int _)⟩
@[simp] noncomputable def Lo:D->D->Option Bool
 |x,.non=>some (match x with|.non=>true|_=>false)
 |x,.bl b=>some (match x with|.bl a=>a == b|_=>false)
 |_,_=>none
@[simp] def dIs:D->D->OB:=λx y=>(Lo x y).map λb=>(.bl b,false)
@[simp] def PM:D->D->OB:=λx y=>(Lo x y).map λb=>(.bl (!b),false)
set_option tactic.hygienic true in
def AQ {K:Frag}{B:Hp}{x y:V}{v u:Value}{dx M:D}{k:Bool}(U:Is K B x dx)(f:Is K B y M)(O:aA x v)(g:aA y u)(e:Lo dx M=some k):plainIs v u=true/\(v == u)=k:=by
 cases f<;>(first|(cases e;done)|skip)
 all_goals (cases U)
 all_goals (first|(obtain⟨t,rfl⟩:=O)|cases O)
 all_goals (cases g)
 all_goals (cases e)
 all_goals (first|exact⟨r4,r4⟩|skip)
 all_goals (rename_i c d;cases c<;>cases d<;>exact⟨r4,r4⟩)
def Y0:bT X (compareOp .Is) (rD X.K dIs):=by
 intro aa s σ H x y v u Q I M O q;refine eR q λB dx g d b U c f e q=>eB e λk ek e=>?_;cases e
 obtain⟨h1,h2⟩:=AQ c f M O ek;refine wpAny_is_plain h1 ⟨.bl k,H,I,by rw[h2];rfl,q.one U (.bl _)⟩
def Lp:bT X (compareOp .IsNot) (rD X.K PM):=by
 intro aa s σ H x y v u Q I M O q;refine eR q λB dx g d b U c f e q=>eB e λk ek e=>?_;cases e
 obtain⟨h1,h2⟩:=AQ c f M O ek;refine wpAny_isNot_plain h1 ⟨.bl _,H,I,by rw[h2];rfl,q.one U (.bl _)⟩
@[simp] noncomputable def dO:D->Bool
 |.non=>true|.bl _=>true|.int _=>true|.str _=>true
 |_=>false
def RV (x:D)(ds:LD):Bool:=ds.any λy=>ge y x
@[simp] noncomputable def gU:D->Option LD
 |.lst ds=>some ds
 |.tup ds=>some ds
 |_=>none
@[simp] def qI:D->D->OB:=λx y=>(gU y).bind λds=>if dO x=true/\ds.all dO=true then some (.bl (RV x ds),false)else none
@[simp] def yZ:D->D->OB:=λx y=>(gU y).bind λds=>if dO x=true/\ds.all dO=true then some (.bl (!RV x ds),false)else none
def ph {K:Frag}(i:Is K B v d)(h:dO d=true):jy v=true:=by
 cases i<;>first|rfl|(simp at h)
def Y1 {K:Frag}{d e:D}(i:Is K B v d)(j:Is K B w e)(h:dO d=true)(h':dO e=true):KP v w=ge d e:=by
 cases i<;>(first|(simp at h)|skip)
 all_goals (cases j<;>(first|(done)|skip))
 all_goals first|rfl|(rw[f9];rfl)
theorem w9 {K:Frag}{vs:LV}{ds:LD}(h:IsL K B vs ds):ds.all dO=true->vs.all jy=true:=h.ind (λ_=>r4) λi _ t h=>by
  rw[all_cons,vD]at h;rw[all_cons,ph i h.1,t h.2];rfl
theorem GK {K:Frag}{B:Hp}(j:Is K B v d)(hd:dO d=true){vs:LV}{ds:LD}(h:IsL K B vs ds):ds.all dO=true->Xn v vs=RV d ds:=h.ind (λ_=>r4) λi _ t h=>by
  rw[all_cons,vD]at h;have e:=t h.2;unfold Xn RV at *;rw[any_cons,any_cons,e,Y1 i j h.1 hd]
set_option tactic.hygienic true in
def GL:bT X (compareOp .In) (rD X.K qI):=by
 refine gB Ek λx y H Q q=>?_;refine cX λG g=>?_;obtain⟨B,dx,c,d,b,M,O,U,e,q⟩:=q;refine eX e λds es e=>?_;apply g;clear g;split at e
 .rename_i hf;cases e
  cases U<;>simp [gU]at es<;>try (cases es;done)
  .rename_i h hl;cases es
   exact⟨_,_,r4,.inr (aG M h),ph O hf.1,w9 hl hf.2,by rw[GK O hf.1 hl hf.2];exact q.one M (.bl _)⟩
  .rename_i h hl;cases es
   exact⟨_,_,r4,.inl (M.seq h),ph O hf.1,w9 hl hf.2,by rw[GK O hf.1 hl hf.2];exact q.one M (.bl _)⟩
 simp_all
set_option tactic.hygienic true in
def GN:bT X (compareOp .NotIn) (rD X.K yZ):=by
 refine gB tK λx y H Q q=>?_;refine cX λG g=>?_;obtain⟨B,dx,c,d,b,M,O,U,e,q⟩:=q;refine eX e λds es e=>?_;apply g;clear g;split at e
 .rename_i hf;cases e
  cases U<;>simp [gU]at es<;>try (cases es;done)
  .rename_i h hl;cases es
   exact⟨_,_,r4,.inr (aG M h),ph O hf.1,w9 hl hf.2,by rw[GK O hf.1 hl hf.2];exact q.one M (.bl _)⟩
  .rename_i h hl;cases es
   exact⟨_,_,r4,.inl (M.seq h),ph O hf.1,w9 hl hf.2,by rw[GK O hf.1 hl hf.2];exact q.one M (.bl _)⟩
 simp_all
def kK:bootBuiltins "len" = some (.builtin "len"):=PySem.boot_len
def dR:bootBuiltins "isinstance" = some (.builtin "isinstance"):=O9
def T7:bootBuiltins "all" = some (.builtin "all"):=O9
def wA:bootBuiltins "int" = some (.type "int"):=O9
def PN:bootBuiltins "bool" = some (.type "bool"):=O9
def wB:bootBuiltins "str" = some (.type "str"):=O9
def pi:bootBuiltins "list" = some (.type "list"):=O9
def nX:bootBuiltins "tuple" = some (.type "tuple"):=O9
@[simp] noncomputable def fM:D->String
 |.non=>"NoneType" | .bl _=>"bool" | .int _=>"int" | .str _=>"str" | .ty _=>"type" | .tup _=>"tuple" | .lst _=>"list" | .dk _ _=>"dict" | .dt _ _=>"dict" | .ob _ _ _ _=>""
@[simp] noncomputable def wC:D->Bool
 |.ty _=>true
 |.ob _ _ _ _=>true
 |_=>false
@[simp] noncomputable def AR (t n:String):OB:=
 if n = "int" then some (.bl (t == "int" || t == "bool"),false)else if n = "bool" then some (.bl (t == "bool"),false)else if n = "str" then some (.bl (t == "str"),false)
 else if n = "list" then some (.bl (t == "list"),false)else if n = "tuple" then some (.bl (t == "tuple"),false)else none
@[simp] def i7:LD->OB
 |[d,.ty n]=>if wC d=true then none else AR (fM d) n
 |_=>none
def Lq {aa:AO}{σ:St}{H:Hp}{s:Shared}{A:Around}{E:QV}{Q:QV}{c:Value}{b:Bool}{v:V}{d:D}{u:Value}(I:Inv X aa σ H s)(i:Is X.K H v d)(hd:wC d=false)(M:aA v u)(e:PySem.W.kitOne X.K (.type (fM d)) c=some b)(h:∀tk,Q (.bool b) { s with toks:=tk }):
  wpAny (model X.prog X.w) A (call (.builtin "isinstance") [u,c]) Q E s:=by
 cases i with
 |non=>exact dS I M .non e h
 |bl y=>exact dS I M (.bl y) e h
 |int y=>exact dS I M (.int y) e h
 |str y=>exact dS I M (.str y) e h
 |ty n=>cases hd
 |ob _ _ _=>cases hd
 |dk h1 _ _=>exact dS I M (.dK h1) e h
 |dt h1 _ _=>exact dS I M (.dT h1) e h
 |tup O _=>
  cases M
  refine cX λG g=>?_;obtain⟨its,x,⟨o,h1,h2,x⟩,x⟩:=I.tuple O;apply g;exact kia_one PySem.W.kitx_tuple I.kIn ⟨o,h1,h2⟩ e (λz=>nomatch z) h
 |lst hl _=>
  cases M
  refine cX λG g=>?_;obtain⟨its,x,⟨o,n,h1,h2,x⟩,x⟩:=I.list hl;apply g;exact kia_one PySem.W.kitx_list I.kIn ⟨o,h1,h2⟩ e (λz=>nomatch z) h
def GO K d(hd:wC d=false):
  PySem.W.kitOne K (.type (fM d)) (.type "int")=some (fM d == "int" || fM d == "bool")/\PySem.W.kitOne K (.type (fM d)) (.type "bool")=some (fM d == "bool")/\PySem.W.kitOne K (.type (fM d)) (.type "str")=some (fM d == "str") /\
   PySem.W.kitOne K (.type (fM d)) (.type "list")=some (fM d == "list")/\PySem.W.kitOne K (.type (fM d)) (.type "tuple")=some (fM d == "tuple"):=by
 cases d<;>try (cases hd;done)
 all_goals (refine⟨?_,?_,?_,?_,?_⟩<;>kernel_rfl)
set_option tactic.hygienic true in
def kL:aY X (.builtin "isinstance") (wl X.K i7):=by
 intro aa s σ H xs us Q I O q;refine e6 q λB ds d b M i e q=>?_;cases i with
 |nil=>cases e
 |cons i1 i=>cases i with
 |nil=>cases e
 |cons i2 i=>
  cases i2<;>try (cases e)
  cases i<;>try (cases e)
  rename_i dx n;obtain⟨g,h,rfl,U,c⟩:=NB O;cases c
  simp only[i7]at e;split at e
  .cases e
  .rename_i f;obtain⟨k1,k2,k3,j,k5⟩:=GO X.K dx (by simpa using f);have dZ:∀ {k:Bool},PySem.W.kitOne _ _ (.type n)=some k->Fin X.K B H _ _ Q->wpAny _ X.A _ (EP X _ σ Q) X.xe s:=λ{k} hk q=>
    Lq I (i1.mono M) (by simpa using f) U hk λtk=>⟨.bl k,H,I.tok tk,r4,q.one M (.bl k)⟩
   unfold AR at e;grind
@[simp] noncomputable def NN:D->OB
 |.int i=>some (.int (Builtin.Int.intBits i),false)
 |_=>none
@[simp] def GP (f:FE):FA:=λρ=>(f ρ).bind λx=>gU x.1
def AS (h:JE X e f):JI X tg e (GP f):=by
 intro aa s σ H R I q;refine cX λG K=>?_;obtain⟨B,ρ,ds,g,r,j,q⟩:=q;refine eX j λx ex es=>?_;obtain⟨xd,l⟩:=x;apply K;cases xd<;>simp [gU]at es<;>try (done)
 .cases es
  refine Pa h _ s σ H R I ⟨B,ρ,_,_,g,r,ex,λv c N1 U i1 z=>?_⟩;cases i1 with
  |@tup a vs _ O hl=>
   refine⟨a,r4,⟨vs,aG U.nh O⟩,q _ c N1 U λi H2 s2=>⟨λd ed=>?_,λM=>⟨vs,aG s2 O,by rw[hl.length];exact M⟩⟩⟩;obtain⟨v,ev,iv⟩:=hl.get ed;refine⟨⟨vs,v,aG s2 O,ev⟩,λy k hy=>?_⟩;obtain⟨rfl,hy⟩:=hy;have:=hy vs (aG s2 O);rw[ev]at this;cases this;exact⟨N1,.refl s2,iv⟩
 .cases es
  refine Kv h _ s σ H R I ⟨B,ρ,_,_,g,r,ex,λv c N1 U i1 z=>?_⟩;cases i1 with
  |@lst a vs _ O hl=>
   refine⟨a,r4,⟨vs,U.nh.seq O⟩,q _ c N1 U λi H2 s2=>⟨λd ed=>?_,λM=>⟨vs,s2.seq O,by rw[hl.length];exact M⟩⟩⟩;obtain⟨v,ev,iv⟩:=hl.get ed;refine⟨⟨vs,v,s2.seq O,ev⟩,λy k hy=>?_⟩;obtain⟨rfl,hy⟩:=hy;have:=hy vs (s2.seq O);rw[ev]at this;cases this;exact⟨N1,.refl s2,iv⟩
noncomputable def bU (lo:Int)(n:Nat):LD:=(List.range n).map λ(k:Nat)=>.int (lo+(k:Int))
def wD {K:Frag}lo n:iq K (SI lo n) B (bU lo n):=by
 intro i H s;unfold bU;refine⟨λd ed=>?_,λhl=>by rw[vI,length_range]at hl;exact hl⟩;rw[vB]at ed;refine eB ed λk ek ed=>?_;have hk:=vV ek;obtain⟨M,hk⟩:=hk;rw[length_range]at M;rw[getElem_range]at hk;subst hk ed;refine⟨M,λx H' hy=>?_⟩;obtain⟨rfl,rfl⟩:=hy;exact⟨B,.refl s,.int _⟩
@[simp] def iA (f:FE):FA:=λρ=>match f ρ with
 |some (.int j,_)=>if -1000<=j/\j<=1000 then some (bU 0 j.toNat)else none
 |_=>none
set_option tactic.hygienic true in
def kM (hm:X.mg "range" = none)(h:JE X a f)(O:autoParam (Gl X "range") I9._auto_1)(hs:autoParam (ce a X.env) I9._auto_1):PI X tg (.Call (.Name "range" p) [a] [] pos) (P1 X.K (iA f)):=by
 refine PI.to (Eb O hm (ag h aB hs) hs) λσ H R q=>?_;refine cX λG k=>?_;obtain⟨B,ρ,ds,U,r,M,q⟩:=q;apply k;clear k;unfold iA at M;split at M
 .rename_i j i c;split at M
  .cases M
   refine⟨B,ρ,[.int j],U,r,by simp[c],λvs d N1 g i1=>?_⟩;cases i1 with
   |cons i1 i2=>
    cases i1;cases i2
    exact⟨j,r4,N9,N9,q _ d N1 g λ_=>wD 0 _⟩
  simp_all
 simp_all
def GQ (hm:X.mg "range" = none)(h:JE X a f)(M:Gl X "range")(hs:ce a X.env):JI X tg (.Call (.Name "range" p) [a] [] pos) (iA f):=
 PI.to (kM hm h M hs) λσ H R ⟨B,ρ,ds,O,r,U,q⟩=>⟨B,ρ,ds,O,r,U,λJ H' N x h=>q J H' N x (h _)⟩
end
section
variable {X:Cx}{a b e:Expr}{pos:Pos}{x:Str}{p:Pos}
def Lr:Kg X "int.bit_length" (λx xs H Q=>∃i,x=.int i/\xs=[]/\Q (.int (Builtin.Int.intBits i)) H):=by
 intro aa s σ H x xs v us Q I M O h;obtain⟨i,rfl,rfl,q⟩:=h;obtain⟨t,rfl⟩:=M;cases O
 exact call_int_bit_length ⟨.int _,H,I.tok _,⟨_,r4⟩,q⟩
def Ls (g:JE X a f)(M:attributeBase a "bit_length" X.env (eval a X.env)=eval a X.env)(O:(aW.endLine == aO.line)=true):JE X (.Call (.Attribute a "bit_length" aW) [] [] aO) (f1 NN f):=by
 refine PE.to (Pt PySem.F.plainAttrs_int PySem.F.slot_int_bit_length PySem.F.type_int_bit_length Lr g M O) λσ H Q q=>cX λG K=>?_;obtain⟨B,ρ,d,b,h,r,U,q⟩:=q;refine eX U λx ex U=>?_;apply K;refine⟨B,ρ,x.1,x.2,h,r,ex,λv i N1 c i1 z=>?_⟩;obtain⟨xd,j⟩:=x;cases i1<;>try (simp at U;done)
 cases U
 exact⟨r4,_,r4,r4,(q.into c).one c.nh (.int _)⟩
end
inductive nD (K:Frag)(x:Str)(st:Stmt):Prop|mk (f:Addr)(fd:FuncData):DS K x x st f fd->PySem.W.nsIn K mainGlobals x=some (some (.ref f))->nD K x st
def def_mk {K:Frag}{x:Str}{st:Stmt}{f:Addr}{oc:Value}{od an:Option Addr}{gZ:Array (Option Value)}{kV doc pm bD ct:Value}(a:PySem.W.nsIn K mainGlobals x=some (some (.ref f)))
  (l:K.lookup f=some ⟨oc,od,.func (fnOf x x (cf st) (aK st) (aj st) .none kV doc pm an bD ct),gZ⟩) (c:PySem.W.codeIn K bD x=true) (k:PySem.W.keepIn K (.ref f)=true):nD K x st:=⟨f,_,tQ l c k,a⟩
def T8 (H:Hp):Prop:=∀b,H b=none\/(∃o xs,H b=some (.frz o (.lst xs)))\/∃q,H b=some (.tbl q)
noncomputable def pj (M:List (Addr×Str))(G:Hp):Hp:=λb=>match M.lookup b with|some q=>some (.tbl q)|none=>G b
def dF (e:M.lookup b=some q):pj M G b=some (.tbl q):=by unfold pj;rw[e]
def gh (e:M.lookup b=none):pj M G b=G b:=by unfold pj;rw[e]
def E5 {P:Program}{w:World}{K:Frag}{mg mb:SV}{k:Nat}{fa a:Addr}{fd:FuncData}{x:Str}{sp:Sp}{M:Shared}{vs:LU}{ns:LI}(O:List (Addr×Str))
  (L:∀b q,O.lookup b=some q->M.heap.get? b=some (PySem.W.tabObj #[])/\isCodeTable M.heap b) (t:PySem.W.noTabs K=true)
  (y:K.In M.heap) (C:M.heap.Ns mainGlobals mg) (hb:M.heap.Ns builtinsNs mb) (A:∀x:Str,x ≠ "__name__"->mb x=bootBuiltins x) (N:M.heap.NoLimit)
  (Q:∃bm ob,mg "__builtins__" = some (.ref bm)/\bm≠builtinsNs/\M.heap.get? bm=some ob/\ob.cls=.type "module"/\ob.dict=some builtinsNs/\ob.data=.plain) (R:M.gens=#[])
  (ha:M.heap.get? a=some { cls:=.type "list",data:=.seq vs.toArray }) (hi:IntsAre vs ns) (hl:ns.length<=sizeLine) (S:bB k callerA)
  (F:∀base:Heap,K.In base->base.Ns mainGlobals mg->dI P w K mg base oR k fa fd [x] sp) (T:∀(s:Shared)(u:Value),BindsTo s fd ⟨[u],[]⟩ [(x,u)])
  (X:∀H:Hp,(∀b q,O.lookup b=some q->H b=some (.tbl q))->dj K H a (ns.map V.int)->sp [.ref a] H (λv _=>v=.bl true) λ_ _ _=>False):
  codeAny (model P w) callerA (.call (.ref fa) ⟨[.ref a],[]⟩) (λr s'=>r=.ok (.ret (.bool true))/\OldK M.heap s'.heap/\s'.os=M.os/\AllBare s'.gens) M:=by
 have D:=L2.fZ hi;have Y:=hi.length;have E:∀H:Hp,T8 H->(∀b q,O.lookup b=some q->H b=some (.tbl q))->dj K H a (ns.map V.int)->gy P w H M.heap->(∀b q,H b=some (.tbl q)->M.heap.get? b=some (PySem.W.tabObj #[])/\isCodeTable M.heap b) ->
   (∀b o u,H b=some (.frz o u)->b=a)->(∀b o u,H b=some (.frz o u)->K.lookup b=none) ->
   codeAny (model P w) callerA (.call (.ref fa) ⟨[.ref a],[]⟩) (λr s'=>r=.ok (.ret (.bool true))/\OldK M.heap s'.heap/\s'.os=M.os/\AllBare s'.gens) M:=by
  intro H j Z hS hok I hB hK;have noA:∀ {b:Addr}{o:Obj},M.heap.get? b=some o->(o.cls≠.none)->(o.cls≠.type "list")->H b=none:=λ{b o} e d d'=>by
   rcases j b with q|⟨ob,xs,q⟩|⟨u,q⟩
   .exact q
   .grind
   simp_all<;>lia
  have B:∀ {b:Addr}{o:Obj}{es:Array DictEntry}{l:Nat},M.heap.get? b=some o->o.data=.dict es l->H b=none:=λ{b o es l} e d=>by
   rcases j b with q|⟨ob,xs,q⟩|⟨u,q⟩
   .exact q
   .grind
   grind
  have p:∀ {b:Addr}{m:SV},M.heap.Ns b m->(vN M.heap H).Ns b m:=λ{b m} ⟨o,es,l,e,d,r⟩=>⟨o,es,l,oG e (B e d),d,r⟩;have f:K.In (vN M.heap H):=λb o e=>oG (y b o e) (by
   rcases j b with q|⟨ob,xs,q⟩|⟨u,q⟩
   .exact q
   .rw[hK b _ _ q]at e;cases e
   .have z:=(I b u q).1;rw[y b o e]at z;cases z
    have:=uS t _ (PySem.W.mem_of_lookupK e);simp at this)
  have hM:Mod K mg (vN M.heap H):=⟨f,p C,⟨mb,p hb,A⟩,let ⟨mc,h1,h2⟩:=N;⟨mc,p h1,h2⟩,by
   grind[oG]⟩
  have e0:Env0 P w K mg (vN M.heap H) callerA [] M H:=⟨r4,hM,λb o e=>Ks e,le_of_eq (DY _ _),trivial,λb hb=>absurd (show b∈([]:List Addr)from hb) X9,hok,.of_eq R⟩;refine codeAny_mono ((F _ f (p C)).run callerA [] M H ⟨[.ref a],[]⟩ [.ref a] [.ref a] _ _ S e0 (T M (.ref a)) (.cons r4 .nil) (X H Z hS)) λr s' h=>?_;cases r with
  |error e=>exact False.elim h
  |ok fl=>
   cases fl with
   |next=>exact False.elim h
   |brk=>exact False.elim h
   |cont=>exact False.elim h
   |ret u=>
    obtain⟨v,H',os,bare,un,J,r',q⟩:=h;have g:v=.bl true:=q;subst g;obtain rfl:u=Value.bool true:=r';have kp:=λb o n e=>un.keep b o e n (by intro z;exact absurd (show b∈([]:List Addr)from z) X9) X9;refine⟨r4,⟨λb o e=>?_,λb o e=>un.there b o e X9⟩,os,bare⟩;rcases j b with z|⟨ob,xs,z⟩|⟨u,z⟩
    .exact .inl (kp b o z e)
    .have z2:=un.frzs b ob _ z;obtain⟨i,_⟩:=hok b _ z;obtain⟨e2,_⟩:=J b _ z2;rw[e]at i;cases i;exact .inl e2
    .obtain⟨i,e2⟩:=I b u z;rw[e]at i;cases i;obtain⟨ps,e3,_⟩:=J b _ (un.tbls b u z);exact .inr (.inl ⟨e2,r4,#[],ps,r4,by simpa using e3⟩)
 have RC:∀q,O.lookup a≠some q:=λq z=>by
  simp_all
 have ta:O.lookup a=none:=by
  cases z:O.lookup a with
  |none=>rfl
  |some q=>exact absurd z (RC q)
 have abe:∀(G:Hp) b q,O.lookup b=some q->aE P w (pj O G) M.heap b (.tbl q):=λG b q z=>⟨#[],(L b q z).1,trivial,λpos cv c=>by cases c⟩;cases hk:K.lookup a with
 |some o=>
  have e:=y a o hk;rw[ha]at e;cases e
  refine E (pj O λ_=>none) (λb=>?_) (λb q z=>dF z) (.inr ⟨_,vs.toArray,_,hk,r4,r4,r4,by simp_all,by simpa using D⟩) (λb u z=>?_) (λb q z=>?_) (λb o u z=>?_) λb o u z=>?_
  all_goals cases U:O.lookup b with
   |none=>first|exact .inl (gh U)|(rw[gh U]at z;cases z)
   |some g=>first|exact .inr (.inr ⟨g,dF U⟩)|(rw[dF U]at z;cases z;done)|(rw[dF U]at z;grind)
 |none=>
  refine E (pj O λb=>if b=a then some _ else none) (λb=>?_) (λb q z=>dF z) (.inl (.inr ⟨{ cls:=.type "list",data:=.seq vs.toArray },by rw[gh ta,if_pos r4]⟩)) (λb u z=>?_) (λb q z=>?_) (λb o u z=>?_) λb o u z=>?_
  all_goals cases U:O.lookup b with
   |some g=>first|exact .inr (.inr ⟨g,dF U⟩)|(rw[dF U]at z;cases z;done)|(rw[dF U]at z;grind)
   |none=>
    first
    |rw[gh U]at z
    |rw[gh U]
    by_cases hb:b=a
    .first
     |rw[if_pos hb]at z
     |rw[if_pos hb]
     first
     |exact .inr (.inl ⟨_,_,r4⟩)
     | (cases z;subst hb;exact⟨ha,by rw[vI];exact hl,vs,_,D,ha⟩)
     |exact hb
     | (rw[hb];exact hk)
     |cases z
    .simp_all
noncomputable def uq (L:List (Str×Option (Addr×Addr))):List (Addr×Str):=L.filterMap λp=>p.2.map λq=>(q.2,qO p.1)
structure oE (K:Frag)(L:List (Str×Option (Addr×Addr))):Prop where
 names:L=ij.map λx=>(x,PySem.W.tabIn K x)
 apart:((uq L).map (·.1)).Nodup
 none:PySem.W.noTabs K=true
theorem j5 {α M:Type}[BEq α][LawfulBEq α]:∀ {l:List (α×M)}{a:α}{b:M},(l.map (·.1)).Nodup->(a,b)∈l->l.lookup a=some b
 | (c,d)::l,a,b,nd,h=>by
  rw[lookup_cons];rcases vP h with e|h
  .cases e;simp
  .rw[show(a == c)=false by simpa using λz=>(nodup_cons.mp nd).1 (by grind)];exact j5 (nodup_cons.mp nd).2 h
theorem iB {α M:Type}[BEq α][LawfulBEq α]:∀ {l:List (α×M)}{a:α}{b:M},l.lookup a=some b->(a,b)∈l
 | (c,d)::l,a,b,h=>by
  rw[lookup_cons]at h;cases e:a == c with
  |true=>simp_all
  |false=>rw[e]at h;exact mZ _ (iB h)
def oE.tb {K:Frag}{L:List (Str×Option (Addr×Addr))}(F:oE K L){H:Hp}(h:∀b q,(uq L).lookup b=some q->H b=some (.tbl q)):Tb K H:=λx hx c P e=>by
 refine h P _ (j5 F.apart ?_);rw[F.names];exact mem_filterMap.mpr ⟨(x,PySem.W.tabIn K x),mem_map.mpr ⟨x,hx,r4⟩,by rw[e];rfl⟩
def tab_yes {K:Frag}{x:Str}{f c P:Addr}{oc O:Value}{od U:Option Addr}{gZ M:Array (Option Value)}{fd:FuncData}{vs:AV}(a:PySem.W.nsIn K mainGlobals x=some (some (.ref f)))(e2:K.lookup f=some ⟨oc,od,.func fd,gZ⟩)(b:fd.code=.ref c)
  (d:K.lookup c=some ⟨O,U,.fields vs,M⟩) (e:vs[11]? = some (.ref P)):PySem.W.tabIn K x=some (c,P):=by simp_all[PySem.W.tabIn]
def tabs_fit {K:Frag}{M t1 t2 t3 O:Option (Addr×Addr)}(h0:PySem.W.tabIn K "in_order" = M)(h1:PySem.W.tabIn K "has_seal" = t1)(h2:PySem.W.tabIn K "is_first_death" = t2)(h3:PySem.W.tabIn K "bases_by" = t3)(h4:PySem.W.tabIn K "as_heard" = O)
  (ap:((uq [("in_order",M),("has_seal",t1),("is_first_death",t2),("bases_by",t3),("as_heard",O)]).map (·.1)).Nodup) (nt:PySem.W.noTabs K=true):oE K [("in_order",M),("has_seal",t1),("is_first_death",t2),("bases_by",t3),("as_heard",O)]:=
 ⟨by subst h0 h1 h2 h3 h4;rfl,ap,nt⟩
section
variable {X:Cx}{a b e:Expr}{pos:Pos}{x:Str}{p:Pos}
@[simp] noncomputable def T9:D->D->OB
 |.lst xs,.lst ys=>if xs.length+ys.length<=sizeLine then some (.lst (xs++ys),true)else none
 |_,_=>none
set_option tactic.hygienic true in
def PP:bT X (binaryOp .Add) (rD X.K T9):=by
 intro aa s σ H x y v u Q I m n q;refine eR q λB dx E d G c r t U q=>?_;cases r<;>try (cases U;done)
 all_goals (cases t<;>try (cases U;done))
 rename_i l vs ds h hl l' ws es h' O;simp only[T9]at U;split at U
 .rename_i hz;cases U
  cases m
  cases n
  refine cX λW Y=>?_;refine I.lisE (c.seq h) λits f w J=>?_;refine I.lisE (c.seq h') λM g p2 L=>?_;obtain⟨⟨N,z,t1,s1⟩,o1,A,n1,k1⟩:=w.isList;obtain⟨⟨P,C,t2,s2⟩,i,e2,n2,k2⟩:=p2.isList;apply Y;clear Y;subst A;subst k1;subst e2;subst k2;have D:its.toArray++M.toArray=(its++M).toArray:=X9
  refine concat_meets ⟨_,o1,r4⟩ ⟨_,i,r4⟩ noFill_list_add seq_list_add PySem.F.slot_list_add PySem.F.entry_list_add (PySem.F.args_list_add_2 _ _) (list_addW l l' its.toArray M.toArray n1 n2 z C s1 s2 (by
   rw[vH,vH,<-f.length,<-g.length,hl.length,O.length];exact hz)) ⟨o1,i,?_⟩;rw[D];have j:=Ext.laid (o:=.lst (vs++ws)) c I.fresh;have k:=(hl.append O).mono j.bn;exact⟨.ref _,_,I.lnew (f.append g) (by rw[vA,hl.length,O.length];exact hz),r4,q _ _ _ j (.lst (dj.of ae) k) λ_=>⟨_,_,_,r4,r4,I.fresh,ae,k⟩⟩
 simp_all
@[simp] noncomputable def TB:D->D->OB
 |.tup xs,.tup ys=>if xs.length+ys.length<=sizeLine/\xs.isEmpty=false then some (.tup (xs++ys),false)else none
 |_,_=>none
set_option tactic.hygienic true in
def PQ:bT X (binaryOp .Add) (rD X.K TB):=by
 refine gB KI λx y H Q q=>eR q λB dx i d j U f g O q=>?_;cases f<;>try (cases O)
 all_goals (cases g<;>try (cases O))
 rename_i l vs ds h hl l' ws es h' M;simp only[TB]at O;split at O
 .cases O
  have l1:=hl.length;have l2:=M.length;refine⟨l,l',vs,ws,r4,r4,aG U h,aG U h',λz=>?_,N9,λz=>?_,λ_ pp hp=>?_⟩
  .grind
  .subst z;cases M
   rw[uR]at q;exact q.one U (.tup h hl)
  .have c:=Ext.laid (o:=.tup (vs++ws)) U hp;exact q _ _ _ c (.tup (dM.of ae) ((hl.append M).mono c.bn)) X9
 simp_all
@[simp] noncomputable def Y2:D->D->OB
 |.bl i,.int j=>some (.int ((if i=true then 1 else 0)+j),false)
 |.int i,.bl j=>some (.int (i+b2i j),false)
 |_,_=>none
def PR:bT X (binaryOp .Add) (rD X.K Y2):=by
 intro aa s σ H x y v u Q I O U q;refine eR q λB dx h d i c f g M q=>?_;cases f<;>try (cases M)
 all_goals (cases g<;>try (cases M;done))
 .cases M
  cases O
  obtain⟨t,rfl⟩:=U;exact IntBool.add_bool_int ⟨.int _,H,I.tok _,⟨_,r4⟩,q.one c (.int _)⟩
 .cases M
  exact Ef _ s σ H _ _ v u Q I O U ⟨_,_,r4,r4,q.one c (.int _)⟩
noncomputable def dG:D->D->OB
 |.int i,.int j=>some (.int (i+j),false)
 |.str i,.str j=>if i.length+j.length<=sizeLine then some (.str (i++j),false)else none
 |.lst xs,.lst ys=>if xs.length+ys.length<=sizeLine then some (.lst (xs++ys),true)else none
 |.tup xs,.tup ys=>if xs.length+ys.length<=sizeLine/\xs.isEmpty=false then some (.tup (xs++ys),false)else none
 |.bl i,.int j=>some (.int ((if i=true then 1 else 0)+j),false)
 |.int i,.bl j=>some (.int (i+b2i j),false)
 |_,_=>none
@[simp] def zz0 (i j:Int):dG (.int i) (.int j)=some (.int (i+j),false):=rfl
@[simp] def zz1 (i j:Str):dG (.str i) (.str j)=if i.length+j.length<=sizeLine then some (.str (i++j),false)else none:=rfl
@[simp] def zz2 (i j:LD):dG (.lst i) (.lst j)=if i.length+j.length<=sizeLine then some (.lst (i++j),true)else none:=rfl
@[simp] def zz3 (i j:LD):dG (.tup i) (.tup j)=if i.length+j.length<=sizeLine/\i.isEmpty=false then some (.tup (i++j),false)else none:=rfl
@[simp] def zz4 (i:Bool)(j:Int):dG (.bl i) (.int j)=some (.int ((if i=true then 1 else 0)+j),false):=rfl
@[simp] def zz5 (i:Int)(j:Bool):dG (.int i) (.bl j)=some (.int (i+b2i j),false):=rfl
def fN:bT X (binaryOp .Add) (rD X.K dG):=by
 refine gB (pe Ln (pe PP (pe PQ PR))) λx y H Q q=>eR q λB dx M d O U c f g q=>?_;refine⟨B,dx,M,d,O,U,c,f,?_,q⟩;cases dx<;>try (cases g)
 all_goals (cases M<;>try (cases g;done))
 all_goals simp_all[Tl]
@[simp] noncomputable def Y3:D->Option Bool
 |.bl b=>some b
 |_=>none
def wE:LD->Option (List Bool)
 |[]=>some []
 |d::ds=>(Y3 d).bind λb=>(wE ds).map (b :: ·)
@[simp] def TC:wE []=some []:=rfl
@[simp] def RW (d:D)(ds:LD):wE (d::ds)=(Y3 d).bind λb=>(wE ds).map (b :: ·):=rfl
theorem ur {K:Frag}{B:Hp}{vs:LV}{ds:LD}{bs:List Bool}{its:LU}(h:L2.aD vs its)(j:IsL K B vs ds)(e:wE ds=some bs):its=bs.map Value.bool:=by
 induction h generalizing ds bs with
 |nil=>cases j;cases e;rfl
 |cons r _ n=>cases j with|cons i U=>
  refine eX e λb M e=>eB e λbs e2 e=>?_;subst e;cases i<;>simp at M<;>try (done)
  cases M
  cases r
  rw[n U e2];rfl
@[simp] def Y4:LD->OB
 |[.lst ds]=>(wE ds).map λbs=>(.bl (bs.all id),false)
 |_=>none
@[simp] def Y5:LD->OB
 |[.lst ds]=>(wE ds).map λbs=>(.bl (bs.any id),false)
 |_=>none
set_option tactic.hygienic true in
def TD (hc:X.calm=true):aY X (.builtin "all") (wl X.K Y4):=by
 intro aa s σ H xs us Q I m q;refine e6 q λB ds d C k i M q=>?_;cases i with
 |nil=>cases M
 |cons i1 i=>
  cases i with
  |cons _ _=>cases i1<;>cases M
  |nil=>
   cases i1<;>try (cases M;done)
   rename_i l vs es h hl;refine eB M λbs n M=>?_;cases M
   obtain⟨D,rfl,r⟩:=cZ m;cases r
   refine I.lisE (k.seq h) λits t f E=>?_;have ei:=ur t hl n;have u:l<s.z:=by obtain⟨_,O,_⟩:=f.isList;exact vX O
   refine call_all_walk (wpAny_pyIter_list f.isList ⟨_,_,_,_,_,_,λj=>(bs[j]?).getD true,r4,Walks.list (A:=X.A.in1) (I.ok.hd hc) _ l (vS u) _,⟨⟨_,vY _ r4,r4,r4⟩,f.isList.push _⟩,λj v s' F G w g=>?_,λh' tk hk=>?_⟩)
   .have U:=by simpa using w
    rw[ei,vB]at U;refine eB U λc y e2=>?_;subst e2;dsimp only at g;rw[y]at g;exact wpAny_truthy_bool g
   .have z:((List.range its.toArray.size).all λj=>(bs[j]?).getD true)=bs.all id:=by
     simp_all[LSm.range_all]
    rw[z];refine⟨.bl _,H,I.kept λc o O=>?_,r4,q.one k (.bl _)⟩;exact hk c o (λhm=>by rw[uU hm]at O;exact Nat.lt_irrefl _ (vX O)) (vZ _ O)
set_option tactic.hygienic true in
def TF (hc:X.calm=true):aY X (.builtin "any") (wl X.K Y5):=by
 intro aa s σ H xs us Q I m q;refine e6 q λB ds d C k i M q=>?_;cases i with
 |nil=>cases M
 |cons i1 i=>
  cases i with
  |cons _ _=>cases i1<;>cases M
  |nil=>
   cases i1<;>try (cases M;done)
   rename_i l vs es h hl;refine eB M λbs n M=>?_;cases M
   obtain⟨D,rfl,r⟩:=cZ m;cases r
   refine I.lisE (k.seq h) λits t f E=>?_;have ei:=ur t hl n;have u:l<s.z:=by obtain⟨_,O,_⟩:=f.isList;exact vX O
   refine call_any_walk (wpAny_pyIter_list f.isList ⟨_,_,_,_,_,_,λj=>(bs[j]?).getD false,r4,Walks.list (A:=X.A.in1) (I.ok.hd hc) _ l (vS u) _,⟨⟨_,vY _ r4,r4,r4⟩,f.isList.push _⟩,λj v s' F G w g=>?_,λh' tk hk=>?_⟩)
   .have U:=by simpa using w
    rw[ei,vB]at U;refine eB U λc y e2=>?_;subst e2;dsimp only at g;rw[y]at g;exact wpAny_truthy_bool g
   .have z:((List.range its.toArray.size).any λj=>(bs[j]?).getD false)=bs.any id:=by
     simp_all[LSm.range_any]
    rw[z];refine⟨.bl _,H,I.kept λc o O=>?_,r4,q.one k (.bl _)⟩;exact hk c o (λhm=>by rw[uU hm]at O;exact Nat.lt_irrefl _ (vX O)) (vZ _ O)
def TH:bootBuiltins "any" = some (.builtin "any"):=O9
end
noncomputable def Xp (z:Str):It:=⟨λi y=>i<z.cps.size,λi H v H'=>H'=H/\∃c,z.cps[i]? = some c/\v=.str ⟨#[c]⟩,λi y=>z.cps.size<=i⟩
def wF {P:Program}{w:World}{K:Frag}{tg:Expr}(z:Str)(t:Tok)(it:Addr):Turn P w K tg (Xp z) [it] it (λi h=>h.IsStrIter it "str_ascii_iterator" z t i) where
 mem:=mem_singleton.mpr r4
 obj:=λi h st b hb=>by
  have g:=uU hb;obtain⟨o,O,y,j⟩:=st;simp_all
 keep:=λi h h' st k=>let ⟨o,O,r⟩:=st;⟨o,k it (mem_singleton.mpr r4) o O,r⟩
 item:=by
  intro X l hw m hc i aa s σ H E I hf st U;have n:i<z.cps.size:=U;obtain⟨a,f1,f2,d,e,f⟩:=hf it (mem_singleton.mpr r4);refine wpAny_pyNext_ascii_item st (c:=z.cps[i]) (by simp ) λh' M p=>?_;obtain⟨o,O,q,j⟩:=id M;exact⟨_,r4,re O q j Z9 ⟨.str _,H,I.turned (λb o hb e2=>(p.2 b hb).trans e2) a f1 d e f,⟨_,r4⟩,⟨r4,_,by simp ,r4⟩,M,λb hb=>(hf b hb).1⟩⟩
 done:=by
  intro X l hw m hc i aa s σ H E I hf st U;have n:z.cps.size<=i:=U;obtain⟨a,f1,f2,d,e,f⟩:=hf it (mem_singleton.mpr r4);exact wpAny_pyNext_ascii_end (I.ok.hd hc) st W9 λh' g=>⟨r4,I.turned (λb o hb e2=>g b o hb e2) a f1 d e f⟩
 self:=λy y y y y st h=>wpAny_pyIter_striter_ascii st h
def wG {P:Program}{w:World}{K:Frag}{tg:Expr}(z:Str)(t:Tok)(it:Addr):Turn P w K tg (Xp z) [it] it (λi h=>h.IsStrIter it "str_iterator" z t i) where
 mem:=mem_singleton.mpr r4
 obj:=λi h st b hb=>by
  have g:=uU hb;obtain⟨o,O,y,j⟩:=st;simp_all
 keep:=λi h h' st k=>let ⟨o,O,r⟩:=st;⟨o,k it (mem_singleton.mpr r4) o O,r⟩
 item:=by
  intro X l hw m hc i aa s σ H E I hf st U;have n:i<z.cps.size:=U;obtain⟨a,f1,f2,d,e,f⟩:=hf it (mem_singleton.mpr r4);refine wpAny_pyNext_wide_item st (c:=z.cps[i]) (by simp ) λh' M p=>?_;obtain⟨o,O,q,j⟩:=id M;exact⟨_,r4,re O q j Z9 ⟨.str _,H,I.turned (λb o hb e2=>(p.2 b hb).trans e2) a f1 d e f,⟨_,r4⟩,⟨r4,_,by simp ,r4⟩,M,λb hb=>(hf b hb).1⟩⟩
 done:=by
  intro X l hw m hc i aa s σ H E I hf st U;have n:z.cps.size<=i:=U;obtain⟨a,f1,f2,d,e,f⟩:=hf it (mem_singleton.mpr r4);exact wpAny_pyNext_wide_end (I.ok.hd hc) st W9 λh' g=>⟨r4,I.turned (λb o hb e2=>g b o hb e2) a f1 d e f⟩
 self:=λy y y y y st h=>wpAny_pyIter_striter_wide st h
section
variable {X:Cx}{a b e:Expr}{pos:Pos}{x:Str}{p:Pos}{tg:Expr}
def GR {l:Expr}{tl:TE}(hl:PE X l tl):PI X tg l (λσ H R=>tl σ H λx M=>∃z,x=.str z/\R (Xp z) M):=by
 intro aa s σ H R I h;refine aV (hl _ s σ H _ I h) λv s1 ⟨x,M,O,U,c⟩=>?_;obtain⟨z,rfl,q⟩:=c;obtain⟨t,rfl⟩:=U;have fp:∀b∈[s1.z],eZ X _ M b:=λb hb=>by
  rw[uU hb];exact O.fpOk (vT _) (O.hok.fresh (vT _))
 cases ha:z.cps.all _ with
 |true=>exact wpAny_pyIter_ascii ha ⟨_,[s1.z],_,_,M,r4,O.kept λb o e=>vZ _ e,wF z t _,⟨_,vY _ r4,r4,r4⟩,fp,q⟩
 |false=>exact wpAny_pyIter_wide ha ⟨_,[s1.z],_,_,M,r4,O.kept λb o e=>vZ _ e,wG z t _,⟨_,vY _ r4,r4,r4⟩,fp,q⟩
noncomputable def mC (z:Str):LD:=z.cps.toList.map λc=>.str ⟨#[c]⟩
def GS {K:Frag}z:iq K (Xp z) B (mC z):=by
 intro i H s;refine⟨λd ed=>?_,λhl=>by unfold mC at hl;show z.cps.size<=i;simp_all⟩;unfold mC at ed;rw[vB]at ed;obtain⟨c,ec,rfl⟩:=oY ed;have M:=by simpa using ec
 refine⟨(Array.getElem?_eq_some_iff.mp M).1,λv H' hy=>?_⟩;obtain⟨rfl,U,O,rfl⟩:=hy;rw[M]at O;cases O;exact⟨B,.refl s,.str _⟩
@[simp] def PU:D->Option LD
 |.lst ds=>some ds
 |.tup ds=>some ds
 |.str z=>some (mC z)
 |_=>none
@[simp] def lV (f:FE):FA:=λρ=>(f ρ).bind λx=>PU x.1
def lW (h:JE X e f):JI X tg e (lV f):=by
 intro aa s σ H R I q;refine cX λG K=>?_;obtain⟨B,ρ,ds,M,r,O,q⟩:=q;refine eX O λU ex es=>?_;obtain⟨xd,g⟩:=U;apply K;cases xd with
 |lst l=>exact AS h _ s σ H R I ⟨B,ρ,ds,M,r,by unfold GP;rw[ex];exact es,q⟩
 |tup l=>exact AS h _ s σ H R I ⟨B,ρ,ds,M,r,by unfold GP;rw[ex];exact es,q⟩
 |str z=>
  cases es
  refine GR h _ s σ H R I ⟨B,ρ,_,_,M,r,ex,λv c N1 d i1 y=>?_⟩;cases i1
  exact⟨z,r4,q _ c N1 d (GS z)⟩
 |_=>cases es
def Lu:FI X (λx lo hi H Q=>∃z,x=.str z/\z.length<=sizeLine/\Q (.str (Txt.slice z lo hi)) H):=by
 intro aa s σ H x v vl c lo hi sl Q I U hs pl O h;obtain⟨z,rfl,hz,q⟩:=h;obtain⟨t,rfl⟩:=U;have dZ:∀lo hi,Q (.str (Txt.slice z lo hi)) H->(Txt.slice z lo hi).length<=sizeLine/\∀t' k,EP X aa σ Q _ _:=λlo hi q=>
  ⟨vR (Txt.slice_le z _ _) hz,λt' k=>⟨.str _,H,I.tok k,⟨t',r4⟩,q⟩⟩
 refine⟨"str",_,PySem.F.slot_str_getitem.lookup,typeIs_str _ _ _,?_⟩;cases pl with
 |none=>
  cases O with
  |none=>exact wpAny_getItem_str_slice (l:=none) (u:=none) (st:=none) hs r4 (post_val_or_str (dZ _ _ q))
  |int j M=>exact wpAny_getItem_str_slice (l:=none) (u:=some (j,M)) (st:=none) hs r4 (post_val_or_str (dZ _ _ q))
 |int i ti=>
  cases O with
  |none=>exact wpAny_getItem_str_slice (l:=some (i,ti)) (u:=none) (st:=none) hs r4 (post_val_or_str (dZ _ _ q))
  |int j M=>exact wpAny_getItem_str_slice (l:=some (i,ti)) (u:=some (j,M)) (st:=none) hs r4 (post_val_or_str (dZ _ _ q))
def E6 {A:Around}{E:QV}{s:Shared}{prog:Program}{w:World}{t sl:Addr}{items:AV}{vl d:Value}{lo hi:OI}{Q:QV}(M:IsTup s.heap t items)(hs:s.heap.IsSliceOf sl vl d .none)(pl:IsPart vl lo)(f:IsPart d hi)
  (h0:HT.cH items.size 0 lo=0) (h1:HT.cH items.size items.size hi=items.size) (h:Q (.ref t) s):wpAny (model prog w) A (getItem (.ref t) (.ref sl)) Q E s:=by
 obtain⟨os,O,U,i⟩:=id hs
 unfold getItem
 try with_reducible refine wpAny_holding ?_
 refine wX (wpAny_sequenceKey M.typeIs Z9 ?_)
 refine wX (wpAny_callSpecial?_slot M.typeIs PyProof.Rows.slot_tuple_getitem (wpAny_call_entry PyProof.Rows.slot_tuple_getitem M.typeIs entry_tuple_getitem ?_ (args_tuple_getitem _ _)))
 show wpAny _ _ (Builtin.Tuple.tupleItemsOf _>>=_) _ _ s
 refine wX (tupleItemsOf_ M ?_)
 refine wX (wpAny_typeOf ⟨os,O,U⟩ ?_)
 refine wX (HT.fY hs pl f ?_)
 show wpAny _ _ (if(((HT.cH _ 0 lo:Nat):Int) == 0 && (1:Int) == 1 && (HT.cH _ _ hi - HT.cH _ 0 lo) == items.size)=true then _ else _) _ _ s
 rw[if_pos (by
  rw[h0,h1];simp)]
 refine wX ?_
 refine wX (wpAny_typeOf M.typeIs (wY ?_))
 refine wX (wpAny_rule ?_)
 exact wY ⟨_,r4,wY h⟩
def Lx:FI X (λx lo hi H Q=>∃a xs,x=.ref a/\dM X.K H a xs/\HT.cH xs.length 0 lo=0/\HT.cH xs.length xs.length hi=xs.length/\Q (.ref a) H):=by
 intro aa s σ H x v vl d lo hi sl Q I U hs pl c h;obtain⟨a,xs,rfl,hx,h0,h1,q⟩:=h;cases U
 refine I.tupE hx λits r O hz=>?_;have M:its.toArray.size=xs.length:=r.length.symm
 exact⟨"tuple",_,PyProof.Rows.slot_tuple_getitem.lookup,O.typeIs,E6 O hs pl c (by rw[M];exact h0) (by rw[M];exact h1) ⟨.ref a,H,I,r4,q⟩⟩
@[simp] def Ly (fa:FE)(fl M:FO):FE:=λρ=>(fa ρ).bind λx=>(fl ρ).bind λl=>(M ρ).bind λh=>match x.1 with
 |.lst ds=>some (.lst (um ds l h),true)
 |.tup ds=>some (.tup (um ds l h),false)
 |.str z=>if z.length<=sizeLine then some (.str (Txt.slice z l h),false)else none
 |_=>none
def zt{lo hi:OI}(h0:HT.cH ds.length 0 lo=0)(h1:HT.cH ds.length ds.length hi=ds.length):um ds lo hi=ds:=by
 unfold um;rw[h0,h1];simp
def kO {lo hi:Option Expr}{p2:Pos}{fa:FE}{fl i:FO}(ha:JE X e fa)(hl:JO X lo fl)(hh:JO X hi i):JE X (.Subscript e (.Slice lo hi none p2) pos) (Ly fa fl i):=by
 refine PE.to (Gk (FI.or (FI.or KO Pq) (FI.or Lu Lx)) ha hl hh) λσ H Q q=>?_;refine cX λG K=>?_;obtain⟨B,ρ,d,b,j,r,e,q⟩:=q;refine eX e λx ex e=>?_;refine eX e λl k e=>?_;refine eX e λh m e=>?_;apply K;clear K;refine⟨B,ρ,x.1,x.2,j,r,ex,λv s N1 O i1 _=>⟨N1,ρ,l,O.nh,r.mono O.bn,k,λH2 h2=>⟨N1,ρ,h,O.nh.trans h2,r.mono O.bn,m,λn h3=>?_⟩⟩⟩;have U:au N1 n:=O.nh.trans (h2.trans h3);have f:=q.into (O.trans (.grow O.nh (h2.trans h3)));obtain⟨xd,t⟩:=x;cases i1 with
 |@tup g vs ds hs M=>
  cases e
  by_cases hw:HT.cH ds.length 0 l=0/\HT.cH ds.length ds.length h=ds.length
  .rw[zt hw.1 hw.2]at f;exact .inr (.inr ⟨g,vs,r4,aG U hs,by rw[M.length];exact hw.1,by rw[M.length];exact hw.2,f.one U (.tup hs M)⟩)
  .refine .inl (.inr ⟨g,vs,r4,aG U hs,by rw[M.length];exact hw,λp hp=>?_⟩);have c:=Ext.laid (o:=.tup (qK vs l h)) U hp;exact f _ _ _ c (.tup (dM.of ae) ((uo M).mono c.bn)) X9
 |@lst g vs ds hs M=>
  cases e
  refine .inl (.inl ⟨g,vs,r4,U.seq hs,λp hp=>?_⟩);have c:=Ext.laid (o:=.lst (qK vs l h)) U hp;exact f _ _ _ c (.lst (dj.of ae) ((uo M).mono c.bn)) λ_=>⟨p,_,_,r4,r4,hp,ae,(uo M).mono c.bn⟩
 |str z=>
  dsimp only at e;split at e
  .rename_i hz;cases e
   exact .inr (.inl ⟨z,r4,hz,f.one U (.str _)⟩)
  simp_all
 |_=>cases e
def const_int {K:Frag}(e:PySem.W.nsIn K mainGlobals y=some (some (.int i t))):∃u v,PySem.W.nsIn K mainGlobals y=some (some u)/\aA v u/\∀B,Is K B v (.int i):=⟨_,.int i,e,⟨t,r4⟩,λz=>.int i⟩
def const_str {K:Frag}(e:PySem.W.nsIn K mainGlobals y=some (some (.str i t))):∃u v,PySem.W.nsIn K mainGlobals y=some (some u)/\aA v u/\∀B,Is K B v (.str i):=⟨_,.str i,e,⟨t,r4⟩,λz=>.str i⟩
noncomputable def ut:Value->D->Bool
 |.none,.non=>true
 |.bool a,.bl b=>a == b
 |.int i _,.int j=>decide (i=j)
 |.str i _,.str j=>decide (i=j)
 |_,_=>false
def gF:LU->LD->Bool
 |[],[]=>true
 |u::us,d::ds=>ut u d && gF us ds
 |_,_=>false
theorem jg {K:Frag}{u:Value}{d:D}(h:ut u d=true):∃v,aA v u/\Is K B v d:=by
 cases u<;>try (cases h;done)
 all_goals (cases d<;>try (cases h;done))
 .exact⟨.non,r4,.non⟩
 .cases eq_of_beq h;exact⟨.bl _,r4,.bl _⟩
 .cases mw h;exact⟨.int _,⟨_,r4⟩,.int _⟩
 .cases mw h;exact⟨.str _,⟨_,r4⟩,.str _⟩
theorem gG {K:Frag}:∀ {us:LU}{ds:LD},gF us ds=true->∃vs,L2.aD vs us/\∀B,IsL K B vs ds
 |[],[],_=>⟨[],.nil,λz=>.nil⟩
 |u::us,d::ds,h=>by
  rw[gF,vD]at h;obtain⟨vs,r,i⟩:=gG h.2;obtain⟨v,O,z⟩:=jg (K:=K) (B:=λz=>none) h.1;refine⟨v::vs,.cons O r,λB=>?_⟩;obtain⟨U,M,c⟩:=jg h.1;have:U=v:=by have f:=O.abs;rw[M.abs]at f;simp_all
  subst this;exact .cons c (i B)
def const_tup {K:Frag}{a:Addr}(e:PySem.W.nsIn K mainGlobals y=some (some (.ref a)))
  (l:K.lookup a=some ⟨.type "tuple",od,.seq its n,gZ⟩) (h:(decide (its.size<=1000) && gF its.toList ds)=true):∃u v,PySem.W.nsIn K mainGlobals y=some (some u)/\aA v u/\∀B,Is K B v (.tup ds):=by
 rw[vD]at h;obtain⟨vs,r,i⟩:=gG h.2;exact⟨_,.ref a,e,r4,λB=>.tup (.inr ⟨_,its,n,l,r4,r4,le_of_lt (lt_of_le_of_lt (mw h.1) Z9),r⟩) (i B)⟩
end
section
variable {X:Cx}{a b o e:Expr}{pos:Pos}{x:Str}{p:Pos}{tg:Expr}
def iC{id:String}{aW aO:Pos}{op:D->D->OB}{fo fe:FE}(slot:Slot "str" name id)(i:typeOf (.builtin id)=pure (.type "method_descriptor"))
  (hm:Kg X id (λx xs H Q=>∃y,xs=[y]/\rD X.K op x y H Q)) (j:∀dx k r,op dx k=some r->∃z,dx=.str z) (l:JE X o fo) (he:JE X e fe)
  (M:autoParam (attributeBase o name X.env (eval o X.env)=eval o X.env) I9._auto_1)
  (m:autoParam (m4 aO e X.env) I9._auto_1)
  (O:autoParam ((aW.endLine == aO.line)=true) I9._auto_1) (hs:autoParam (ce e X.env) I9._auto_1):
  JE X (.Call (.Attribute o name aW) [e] [] aO) (f2 op fo fe):=by
 refine PE.to (oQ PySem.F.plainAttrs_str slot i hm l (av he aN hs) M m O hs r4) λσ H Q q=>cX λG W=>?_;obtain⟨B,ρ,d,n,s,r,c,q⟩:=q;refine eX c λg ex c=>eX c λf t c=>?_;obtain⟨z,hz⟩:=j _ _ _ c;apply W;refine⟨B,ρ,g.1,g.2,s,r,ex,λv w N1 U i1 p=>?_⟩;rw[hz]at i1;cases i1
 refine⟨show "str" = "str" from r4,N1,ρ,f.1,f.2,U.nh,r.mono U.bn,t,λu H2 N2 h i2 p=>⟨u,r4,N2,.str z,f.1,d,n,h.nh,.str z,i2,by rw[<-hz];exact c,q.into (U.trans h)⟩⟩
@[simp] noncomputable def PV:D->Option Str
 |.str z=>some z
 |_=>none
def gV:LD->Option LS
 |[]=>some []
 |d::ds=>(PV d).bind λz=>(gV ds).map (z :: ·)
@[simp] def RY:gV []=some []:=rfl
@[simp] def PX (d:D)(ds:LD):gV (d::ds)=(PV d).bind λz=>(gV ds).map (z :: ·):=rfl
@[simp] def E7 zs:gV (zs.map D.str)=some zs:=by
 induction zs with
 |nil=>rfl
 |cons z zs M=>simp[M]
theorem gl {K:Frag}{B:Hp}{vs:LV}{ds:LD}{zs:LS}{its:LU}(h:L2.aD vs its)(j:IsL K B vs ds)(e:gV ds=some zs):StrsAre its zs:=by
 induction h generalizing ds zs with
 |nil=>cases j;cases e;exact .nil
 |cons r _ n=>cases j with|cons i U=>
  refine eX e λz M e=>eB e λzs e2 e=>?_;subst e;cases i<;>simp at M<;>try (done)
  cases M
  obtain⟨t,rfl⟩:=r;exact .cons _ t (n U e2)
@[simp] def kP:D->D->OB
 |.str M,.lst ds=>(gV ds).bind λzs=>if(zs.map (·.length)).sum+zs.length*M.length<=16777216 then some (.str (Txt.join M zs),false)else none
 |.str M,.tup ds=>(gV ds).bind λzs=>if(zs.map (·.length)).sum+zs.length*M.length<=16777216 then some (.str (Txt.join M zs),false)else none
 |_,_=>none
set_option tactic.hygienic true in
def uu:Kg X "str.join" (λx xs H Q=>∃y,xs=[y]/\rD X.K kP x y H Q):=by
 intro aa s σ H x xs v us Q I i j h;obtain⟨y,rfl,B,dx,r,d,u,O,l,m,M,q⟩:=h;obtain⟨w,rfl,g⟩:=cZ j;cases l<;>(try (simp at M))
 obtain⟨t,rfl⟩:=i;cases m<;>(try (simp at M;done))
 .rename_i h hl;refine eX M λzs U M=>?_;split at M
  .rename_i hok;cases M
   cases g
   refine I.tupE (aG O h) λits c f n=>?_;exact join_tuple f (by simpa using gl c hl U) hok λt' k=>⟨.str _,H,I.tok k,⟨t',r4⟩,q.one O (.str _)⟩
  simp_all
 .rename_i h hl;refine eX M λzs U M=>?_;split at M
  .rename_i hok;cases M
   cases g
   refine I.lisE (O.seq h) λits c f n=>?_;exact join_list f.isList (by simpa using gl c hl U) hok λt' k=>⟨.str _,H,I.tok k,⟨t',r4⟩,q.one O (.str _)⟩
  simp_all
def kQ (dx M)r(h:kP dx M=some r):∃z,dx=.str z:=by
 cases dx<;>first|exact⟨_,r4⟩|(cases M<;>simp at h)
noncomputable def dP:LN->LD->Env->Option Env
 |[],[],ρ=>some ρ
 |i::is,d::ds,ρ=>dP is ds (ρ.set i (some (d,false)))
 |_,_,_=>none
@[simp] def RZ ρ:dP [] [] ρ=some ρ:=by rw[dP]
@[simp] def zu i(is:LN)d(ds:LD)ρ:dP (i::is) (d::ds) ρ=dP is ds (ρ.set i (some (d,false))):=by rw[dP]
@[simp] def TJ d(ds:LD)ρ:dP [] (d::ds) ρ=none:=by simp [dP]
@[simp] def TK i(is:LN)ρ:dP (i::is) [] ρ=none:=by simp [dP]
@[simp] def TL (is:LN):FG:=λd ρ=>match d with|.tup ds=>dP is ds ρ|_=>none
def gH:LN->N6
 |[]=>SH
 |i::is=>NA (fu i) (gH is)
def GU:au (cE N (own σ ρ)) (cE N (own (σ.set i (some v)) (ρ.set i (some (d,false))))):=cM λa u e q=>⟨e,λz=>q (by
 rcases tX z with⟨y,d',p⟩|⟨j,y,d',M,q2⟩
 .cases p
 .exact⟨j,d',M,q2⟩)⟩
theorem jh {K:Frag}{is:LN}{vs:LV}{ds:LD}{B0 H0 N H:Hp}{σ:St}{ρ ρ':Env}{Q:St->Hp->Prop}(s:cy K B0 H0 N H σ ρ)(l:IsL K (cE N (own σ ρ)) vs ds)(e:dP is ds ρ=some ρ')(k:∀M,cy K B0 H0 N H M ρ'->Q M H):gH is vs σ H Q:=by
 induction is generalizing vs ds N σ ρ with
 |nil=>cases l with|nil=>cases e;exact⟨r4,k _ s⟩|cons=>cases e
 |cons i is n=>cases l with|nil=>cases e|cons h r=>exact⟨_,_,r4,n (s.bind h) (r.mono GU) e k⟩
theorem ji:∀ {is:LN}{ds:LD}{ρ ρ':Env},dP is ds ρ=some ρ'->ds.length=is.length
 |[],[],_,_,_=>r4
 |_::_,_::_,_,_,e=>by rw[zu]at e;simp[ji e]
 |[],_::_,_,_,e=>by simp at e
 |_::_,[],_,_,e=>by simp at e
def TM {K:Frag}{is:LN}:G9 K (TL is) (FW K is.length (gH is)):=by
 intro B0 H0 N H σ ρ ρ' v d Q s h e k;cases h with
 |@tup a vs ds O hl=>
  exact⟨a,vs,r4,aG (aP.trans s.ext.nh) O,by rw[hl.length];exact ji e,jh s hl e λU s'=>k _ H ⟨N,s'⟩⟩
 |_=>cases e
theorem rA {K:Frag}{n:Nat}{B H:Hp}{M:Env}{Q:St->Hp->Prop}(cl:∀i,i<n->M[i]? = some none){is:LN}{vs:LV}{ds:LD}{σ:St}{ρ U:Env}(hn:∀i∈is,i<n)(rp:bQ K B σ ρ)(l:IsL K B vs ds)(e:dP is ds ρ=some U)(l1:ρ.length=σ.length)(l2:ρ.length=M.length)
  (k:∀O,bQ K B O U->(∀c,bQ K c σ M->bQ K c O M)->M.length=O.length->Q O H):gH is vs σ H Q:=by
 induction is generalizing vs ds σ ρ with
 |nil=>cases l with|nil=>cases e;exact⟨r4,k _ rp (λy z=>z) N9⟩|cons=>cases e
 |cons i is r=>cases l with|nil=>cases e|cons h hs=>
  have hi:=hn i mX;have m:i<σ.length:=by
   grind
  refine⟨_,_,r4,r (λj hj=>hn j (mZ _ hj)) ⟨rp.tb,λj d b q=>?_⟩ hs e (by simpa using l1) (by simpa using l2) λO f g l=>k _ f (λc z=>g c ⟨z.tb,λj d b q=>?_⟩) l⟩
  .rcases bg q with⟨rfl,pp⟩|⟨ne,pp⟩
   .simp_all
   .obtain⟨w,h1,h2⟩:=rp.at' j d b pp;simp_all
  .obtain⟨w,h1,h2⟩:=z.at' j d b q;have ne:i≠j:=λz=>by grind
   exact⟨w,by simp_all,h2⟩
def AT {K:Frag}{n:Nat}{is:LN}(hn:∀i∈is,i<n):FJ K n (TL is) (FW K is.length (gH is)):=by
 intro B H σ ρ U v d Q cl rep s h e hl k;cases h with
 |@tup a vs ds c M=>
  exact⟨a,vs,r4,aG s c,by rw[M.length];exact ji e,rA cl hn rep M e hl r4 k⟩
 |_=>cases e
end
section
variable {prog:Program}{w:World}{A:Around}{E:QV}{s:Shared}
def zv (st:s.heap.IsTupleIter it l i)(O:s.heap.IsTuple l items)(U:items[i]? = some v)
  (k:∀h',h'.IsTupleIter it l (i+1)->Heap.SameBut it s.heap h'->Q v { s with heap:=h' }):wpAny (model prog w) A (Builtin.SmallTypes.nextOf (.ref it)) Q E s:=by
 refine cX λG g=>?_;obtain⟨o1,g1,a,M⟩:=id st;obtain⟨d,b,z,n2,c⟩:=O;apply g;refine wX (wpAny_callSpecial?_slot st.typeIs slot_tuple_iterator_next (wpAny_call_entry slot_tuple_iterator_next st.typeIs PySem.F.entry_tuple_iterator_next ?_ (PySem.F.args_tuple_iterator_next_1 _)));show wpAny _ _ (field _ 0>>=_) _ _ _;refine wX (wpAny_field g1 M r4 ?_);refine wX (wpAny_field g1 M r4 ?_);refine wX (wpAny_seqItems b c ?_);simp [U,Int.toNat_natCast];refine wX (wpAny_setField g1 M X9 (wY ⟨v,r4,wY (k _ ?_ (vW ..))⟩));exact⟨_,Heap.get?_update_self _ g1 (Obj.isFreed_of_fields (Obj.data_mapFields M _)),(Obj.cls_mapFields ..).trans a,by rw[Obj.data_mapFields M];simp[rawInt]⟩
def E8 (O:A.handled=none)(st:s.heap.IsTupleIter it l i)(U:s.heap.IsTuple l items)(a:items[i]? = none)
  (k:∀h' x,Heap.ExtBut it s.heap h'->(∃o,h'.get? x=some o/\o.cls=.type "StopIteration")->E (.ref x) { s with heap:=h' }):wpAny (model prog w) A (Builtin.SmallTypes.nextOf (.ref it)) Q E s:=by
 refine cX λG g=>?_;obtain⟨o1,g1,d,M⟩:=id st;obtain⟨e,b,z,n2,c⟩:=U;apply g;refine wX (wpAny_callSpecial?_slot st.typeIs slot_tuple_iterator_next (wpAny_call_entry slot_tuple_iterator_next st.typeIs PySem.F.entry_tuple_iterator_next ?_ (PySem.F.args_tuple_iterator_next_1 _)));show wpAny _ _ (field _ 0>>=_) _ _ _;refine wX (wpAny_field g1 M r4 ?_);refine wX (wpAny_field g1 M r4 ?_);refine wX (wpAny_seqItems b c ?_);simp [a,Int.toNat_natCast];refine wX (wpAny_rule (wX (wpAny_setField g1 M X9 ?_)));refine wX ?_;refine wX (m:=firstArgMember _ _) (wpAny_of_eq I9 ?_);refine wpAny_newObj_type ?_ Z8;refine wX (wpAny_handled ?_);first|rw[O]|rw[show A.in1.handled=none from O]
 exact wX (wY (wpAny_throw (k _ _ (((vW ..).extBut.push _).push _) ⟨_,vY _ r4,r4⟩)))
end
def hJ:Bool->Heap->Addr->Addr->Nat->Prop
 |true,h,it,a,i=>h.IsListIter it a i
 |false,h,it,a,i=>h.IsTupleIter it a i
def jj (k:Bool)(K:Frag)(H:Hp)(a:Addr)(xs:LV):Prop:=match k with|true=>dj K H a xs|false=>dM K H a xs
def hJ.ob (st:hJ k h it a i):∃o,h.get? it=some o/\∀v,o.data≠.cell v:=by
 cases k<;>(obtain⟨o,g,z,d⟩:=st;simp_all)
def hJ.upon (st:hJ k h it a i)(g:∀o,h.get? it=some o->h'.get? it=some o):hJ k h' it a i:=by
 cases k<;>(obtain⟨o,e,r⟩:=st;exact⟨o,g o e,r⟩)
def iz.upon (st:iz k h a items)(g:∀o,h.get? a=some o->h'.get? a=some o):iz k h' a items:=by
 cases k<;>(obtain⟨o,e,r⟩:=st;exact⟨o,g o e,r⟩)
def iz.lt (st:iz k h a items):a<h.objs.size:=by
 cases k<;>(obtain⟨o,e,r⟩:=st;exact vX e)
theorem jj.same{K:Frag}{H H':Hp}{a:Addr}{xs:LV}(h:jj k K H a xs)(e:au H H'):jj k K H' a xs:=by
 cases k
 .exact aG e h
 .exact e.seq h
def jj.vals (I:Inv X aa σ H s)(h:jj k X.K H a xs):∃its:LU,aD xs its/\iz k s.heap a its.toArray/\xs.length<=sizeLine:=by
 cases k
 .exact I.tuple h
 .exact I.lisE h λits r p z=>⟨its,r,p.isList,z⟩
def jj.inj (I:Inv X aa σ H s)(h:jj k X.K H a xs)(h':jj k X.K H a ys):xs=ys:=by
 cases k
 .exact I.tuple_inj h h'
 .exact I.list_inj h h'
section
variable {prog:Program}{w:World}{A:Around}{E:QV}{s:Shared}
def dv (st:hJ k s.heap it l i)(M:iz k s.heap l items)(O:items[i]? = some v)
  (q:∀h',hJ k h' it l (i+1)->Heap.SameBut it s.heap h'->Q v { s with heap:=h' }):wpAny (model prog w) A (Builtin.SmallTypes.nextOf (.ref it)) Q E s:=by
 cases k
 .exact zv st M O q
 .exact wpAny_nextOf_list_item st M O q
def gm (M:A.handled=none)(st:hJ k s.heap it l i)(O:iz k s.heap l items)(U:items[i]? = none)
  (q:∀h' x,Heap.ExtBut it s.heap h'->(∃o,h'.get? x=some o/\o.cls=.type "StopIteration")->E (.ref x) { s with heap:=h' }):wpAny (model prog w) A (Builtin.SmallTypes.nextOf (.ref it)) Q E s:=by
 cases k
 .exact E8 M st O U q
 .exact wpAny_nextOf_list_end M st O U q
end
noncomputable def Lz (k:Bool)(l:Addr):Obj:={ cls:=.type (if k=true then "list_iterator" else "tuple_iterator"),data:=.fields #[.ref l,.int 0 0] }
def kR (M:iz k s.heap l items)
  (q:Q (.ref s.z) { s with heap:=s.heap.push (Lz k l) }):wpAny (model prog w) A (pyIter (.ref l)) Q E s:=by
 cases k
 .exact wpAny_pyIter_tuple M q
 .exact wpAny_pyIter_list M q
def iz.push (st:iz k h a items)o:iz k (h.push o) a items:=st.upon λz=>vZ _
section
variable (k1 k2:Bool) (h:Heap) (l1 l2:Addr)
abbrev zA:Heap:=h.push (Lz k1 l1)
abbrev zB:Heap:=(zA k1 h l1).push (Lz k2 l2)
abbrev zC:Heap:=(zB k1 k2 h l1 l2).push { cls:=.type "tuple",data:=.seq #[.ref h.objs.size,.ref (zA k1 h l1).objs.size] }
abbrev zD:Heap:=(zC k1 k2 h l1 l2).push { cls:=.type "tuple",data:=.seq #[.none,.none] }
abbrev zE:Heap:=(zD k1 k2 h l1 l2).push { cls:=.type "zip",data:=.fields #[.none,.bool false,.bool false,.ref (zB k1 k2 h l1 l2).objs.size,.ref (zC k1 k2 h l1 l2).objs.size] }
end
def zw (k1 k2:Bool)(l1 l2:Addr)(xs ys:AV):Meets (Builtin.«zip.__new__» ⟨[.type "zip",.ref l1,.ref l2],[]⟩) (λz R s=>iz k1 s.heap l1 xs/\iz k2 s.heap l2 ys /\
   R (.ok (.ret (.ref (zD k1 k2 s.heap l1 l2).objs.size))) { s with heap:=zE k1 k2 s.heap l1 l2 }):=
 .of_wp λprog w A R s hs=>by
  refine cX λG K=>?_;obtain⟨O,q2,hs⟩:=hs;apply K;have M:=sub_zip;wp_walk using kR O,kR (iz.push q2 _);exact⟨_,r4,hs⟩
section
variable {prog:Program}{w:World}{A:Around}{E:QV}{s:Shared}
def L4 (i:iz k1 s.heap l1 xs)(q2:iz k2 s.heap l2 ys)
  (q:∀h',IsZip h' (s.z+4) (s.z+2) (s.z+3) .none->IsPair h' (s.z+2) (.ref s.z) (.ref (s.z+1))->IsPair h' (s.z+3) .none .none ->
   hJ k1 h' s.z l1 0->hJ k2 h' (s.z+1) l2 0->(∀c o,s.heap.get? c=some o->h'.get? c=some o)->Q (.ref (s.z+4)) { s with heap:=h' }):
  wpAny (model prog w) A (call (.type "zip") [.ref l1,.ref l2]) Q E s:=by
 refine callType_new PySem.F.called_zip Z9 (PySem.F.typeCall_zip_2 _ _) (PySem.F.newCall_zip_2 _ _) (λobj=>PySem.F.args_object_init_3 obj _ _) PySem.F.entry_zip_new (zw k1 k2 l1 l2 xs ys) ⟨i,q2,?_⟩;have n1:(zA k1 s.heap l1).objs.size=s.z+1:=Heap.size_push ..;have n2:(zB k1 k2 s.heap l1 l2).objs.size=s.z+2:=by rw[Heap.size_push,n1]
 have n3:(zC k1 k2 s.heap l1 l2).objs.size=s.z+3:=by rw[Heap.size_push,n2]
 have O:(zD k1 k2 s.heap l1 l2).objs.size=s.z+4:=by rw[Heap.size_push,n3]
 have U:∀ {c o},(zD k1 k2 s.heap l1 l2).get? c=some o->(zE k1 k2 s.heap l1 l2).get? c=some o:=λe=>vZ _ e;have a:∀ {c o},(zC k1 k2 s.heap l1 l2).get? c=some o->(zE k1 k2 s.heap l1 l2).get? c=some o:=λe=>U (vZ _ e);have b:∀ {c o},(zB k1 k2 s.heap l1 l2).get? c=some o->(zE k1 k2 s.heap l1 l2).get? c=some o:=λe=>a (vZ _ e);have d:∀ {c o},(zA k1 s.heap l1).get? c=some o->(zE k1 k2 s.heap l1 l2).get? c=some o:=λe=>b (vZ _ e);have j:∀ {c o},s.heap.get? c=some o->(zE k1 k2 s.heap l1 l2).get? c=some o:=λe=>d (vZ _ e);have M:(zE k1 k2 s.heap l1 l2).get? _=some _:=vY _ r4;have f:=U (vY _ r4);have g:=a (vY _ r4);have h:=b (vY _ (by cases k2<;>rfl))
 have g1:=d (vY _ (by cases k1<;>rfl))
 rw[n2,n3,O]at M;rw[n1,n2]at g;rw[n3]at f;rw[n1]at h;show _/\_;rw[O];refine⟨⟨_,M,r4⟩,q _ M g f ?_ ?_ λc o e=>j e⟩
 .cases k1<;>exact⟨_,g1,r4,r4⟩
 .cases k2<;>exact⟨_,h,r4,r4⟩
structure ZApart (z TI TO i1 i2:Addr):Prop where
 tz:TI≠z
 oz:TO≠z
 az:i1≠z
 bz:i2≠z
 oa:TO≠i1
 ob:TO≠i2
 to:TI≠TO
 ta:TI≠i1
 tb:TI≠i2
 ab:i1≠i2
structure ZA (z TI TO i1 i2 l1 l2:Addr):Prop where
 D:ZApart z TI TO i1 i2
 m1:l1≠z/\l1≠TO/\l1≠i1
 m2:l2≠z/\l2≠TO/\l2≠i1/\l2≠i2
def wH {k1 k2:Bool}{z TI TO i1 i2 l1 l2:Addr}{j:Nat}{xs ys:AV}{x y a b:Value}{Q:QV}(Z:ZA z TI TO i1 i2 l1 l2)
  (hz:IsZip s.heap z TI TO .none) (T:IsPair s.heap TI (.ref i1) (.ref i2)) (W:IsPair s.heap TO a b) (t1:hJ k1 s.heap i1 l1 j) (t2:hJ k2 s.heap i2 l2 j) (X:iz k1 s.heap l1 xs) (q2:iz k2 s.heap l2 ys) (hx:xs[j]? = some x) (hy:ys[j]? = some y)
  (q:∀h',IsZip h' z TI TO (rawInt s.z)->IsPair h' TO x y->hJ k1 h' i1 l1 (j+1)->hJ k2 h' i2 l2 (j+1)->IsPair h' s.z x y->h'.objs.size=s.z+1->IsPair h' TI (.ref i1) (.ref i2) ->
   (∀c o,c∉[z,TI,TO,i1,i2]->s.heap.get? c=some o->h'.get? c=some o)->Q (.ref s.z) { s with heap:=h' }):
  wpAny (model prog w) A (Builtin.«zip.__next__» ⟨[.ref z],[]⟩) (λdZ s'=>∃v,dZ=.done (.ret v)/\Q v s') E s:=by
 obtain⟨D,m1,m2⟩:=Z;show wpAny _ _ (field (.ref z) 2>>=_) _ _ s;refine wX (wpAny_field hz r4 (x:=.bool false) r4 ?_);show wpAny _ _ (field (.ref z) 3>>=_) _ _ s;refine wX (wpAny_field hz r4 (x:=.ref TI) r4 (wX (wpAny_seqItems T r4 ?_)));refine wX ?_;unfold Builtin.SmallTypes.ownedTupleIsFree;refine wX (wpAny_field hz r4 (x:=.none) r4 (wY ?_));simp only[if_true];refine wX (wpAny_rule (wX (wpAny_field hz r4 (x:=.ref TO) r4 (wX (wpAny_setField_rec hz X9 λg1 C s1=>?_)))));replace C:IsZip g1 z TI TO .ellipsis:=C;refine wX ?_;refine wX (wX (wpAny_onRaise ?_));refine wX (dv (s:={ s with heap:=g1 }) (t1.upon λo e=>s1.extBut _ _ D.az e) (X.upon λo e=>s1.extBut _ _ m1.1 e) hx λY F s2=>wY ?_);have V:IsPair Y TO a b:=s2.extBut _ _ D.oa (s1.extBut _ _ D.oz W);refine wX (wpAny_seqItems V r4 (wX (wpAny_updateSeq_pair V λG d t=>?_)));replace d:IsPair G TO x b:=d;refine wX (wpAny_letGo (wY (wX (wX (wpAny_onRaise ?_)))));have H:∀ {c o},c≠z->c≠TO->c≠i1->s.heap.get? c=some o->G.get? c=some o:=λf u I e=>t.extBut _ _ u (s2.extBut _ _ I (s1.extBut _ _ f e));refine wX (dv (s:={ s with heap:=G }) (t2.upon λo e=>H D.bz D.ob.symm D.ab.symm e) (q2.upon λo e=>H m2.1 m2.2.1 m2.2.2.1 e) hy λg4 J g=>wY ?_);have h:IsPair g4 TO x b:=g.extBut _ _ D.ob d;refine wX (wpAny_seqItems h r4 (wX (wpAny_updateSeq_pair h λM U i=>?_)));replace U:IsPair M TO x y:=U;refine wX (wpAny_letGo (wY (wY (wX (wpAny_seqItems U r4 (wX (wpAny_newTuple ?_)))))));have sz:M.objs.size=s.z:=by rw[i.1,g.1,t.1,s2.1,s1.1]
 have k:∀c o,c≠z->c≠TO->c≠i1->c≠i2->s.heap.get? c=some o->M.get? c=some o:=λc o f u I c4 e=>i.extBut _ _ u (g.extBut _ _ c4 (H f u I e));have l:IsZip M z TI TO .ellipsis:=i.extBut _ _ D.oz.symm (g.extBut _ _ D.bz.symm (t.extBut _ _ D.oz.symm (s2.extBut _ _ D.az.symm C)));have K:hJ k1 M i1 l1 (j+1):=F.upon λo e=>i.extBut _ _ D.oa.symm (g.extBut _ _ D.ab (t.extBut _ _ D.oa.symm e));have L:hJ k2 M i2 l2 (j+1):=J.upon λo e=>i.extBut _ _ D.ob.symm e;have m:z<M.objs.size:=vX l;refine wX ?_;unfold Builtin.SmallTypes.ownedTupleHandOut;have N:IsZip (M.push { cls:=.type "tuple",data:=.seq #[x,y] }) z TI TO .ellipsis:=vZ _ l;refine wX (wpAny_setField_rec N X9 λg7 P R=>?_);refine wpAny_setField_rec P X9 λB n S=>?_;have O:∀c o,c≠z->M.get? c=some o->B.get? c=some o:=λc o f e=>S.extBut _ _ f (R.extBut _ _ f (vZ _ e));have p:IsPair B M.objs.size x y:=S.extBut _ _ (ne_of_gt m) (R.extBut _ _ (ne_of_gt m) (vY _ r4));have r:B.objs.size=M.objs.size+1:=by rw[S.1,R.1,Heap.size_push]
 rw[sz]at n p r;refine wY ⟨_,r4,?_⟩;show Q (.ref M.objs.size) _;rw[sz];exact q B n (O _ _ D.oz U) (K.upon λo e=>O _ o D.az e) (L.upon λo e=>O _ o D.bz e) p r (O _ _ D.tz (k _ _ D.tz D.to D.ta D.tb T)) λc o hc e=>by
  simp at hc;exact O c o hc.1 (k c o hc.1 hc.2.2.1 hc.2.2.2.1 hc.2.2.2.2 e)
end
section
variable {prog:Program}{w:World}{A:Around}{E:QV}{s:Shared}
def AU {k1 k2:Bool}{z TI TO i1 i2 l1 l2:Addr}{j:Nat}{xs ys:AV}{a b:Value}{Q:PySem.Fin->Shared->Prop}(m:A.handled=none)(Z:ZA z TI TO i1 i2 l1 l2)
  (hz:IsZip s.heap z TI TO .none) (u:IsPair s.heap TI (.ref i1) (.ref i2)) (y:IsPair s.heap TO a b) (t1:hJ k1 s.heap i1 l1 j) (t2:hJ k2 s.heap i2 l2 j) (n:iz k1 s.heap l1 xs) (q2:iz k2 s.heap l2 ys) (he:xs[j]? = none\/ys[j]? = none)
  (q:∀h' x,(∀c o,c∉[z,TI,TO,i1,i2]->s.heap.get? c=some o->h'.get? c=some o)->(∃o,h'.get? x=some o/\o.cls=.type "StopIteration")->E (.ref x) { s with heap:=h' }):
  wpAny (model prog w) A (Builtin.«zip.__next__» ⟨[.ref z],[]⟩) Q E s:=by
 obtain⟨D,m1,m2⟩:=Z;show wpAny _ _ (field (.ref z) 2>>=_) _ _ s;refine wX (wpAny_field hz r4 (x:=.bool false) r4 ?_);refine wX (wpAny_field hz r4 (x:=.ref TI) r4 (wX (wpAny_seqItems u r4 ?_)));refine wX ?_;refine wX (wpAny_field hz r4 (x:=.none) r4 (wY ?_));simp only[if_true];refine wX (wpAny_rule (wX (wpAny_field hz r4 (x:=.ref TO) r4 (wX (wpAny_setField_rec hz X9 λg1 O s1=>?_)))));refine wX ?_;refine wX (wX (wpAny_onRaise ?_));cases hx:xs[j]? with
 |none=>
  refine wX (gm (s:={ s with heap:=g1 }) m (t1.upon λo e=>s1.extBut _ _ D.az e) (n.upon λo e=>s1.extBut _ _ m1.1 e) hx λf x s2 hX=>?_);obtain⟨g,h,i⟩:=hX;have B:IsZip f z TI TO .ellipsis:=s2 _ _ D.az.symm O;have k:x≠z:=λC=>by lia
  exact wpAny_setField_rec B X9 λd Y U=>q d x (λc o hc e=>by simp at hc;exact U.extBut _ _ hc.1 (s2 _ _ hc.2.2.2.1 (s1.extBut _ _ hc.1 e))) ⟨g,U.extBut _ _ k h,i⟩
 |some v=>
  have hy:ys[j]? = none:=by
   lia
  refine wX (dv (s:={ s with heap:=g1 }) (t1.upon λo e=>s1.extBut _ _ D.az e) (n.upon λo e=>s1.extBut _ _ m1.1 e) hx λf F s2=>wY ?_);have p:IsPair f TO a b:=s2.extBut _ _ D.oa (s1.extBut _ _ D.oz y);refine wX (wpAny_seqItems p r4 (wX (wpAny_updateSeq_pair p λd G U=>?_)));refine wX (wpAny_letGo (wY (wX (wX (wpAny_onRaise ?_)))));have M:∀ {c o},c≠z->c≠TO->c≠i1->s.heap.get? c=some o->d.get? c=some o:=λH I J e=>U.extBut _ _ I (s2.extBut _ _ J (s1.extBut _ _ H e));refine wX (gm (s:={ s with heap:=d }) m (t2.upon λo e=>M D.bz D.ob.symm D.ab.symm e) (q2.upon λo e=>M m2.1 m2.2.1 m2.2.2.1 e) hy λK x r hX=>?_);obtain⟨g,h,i⟩:=hX;have l:IsZip K z TI TO .ellipsis:=r _ _ D.bz.symm (U.extBut _ _ D.oz.symm (s2.extBut _ _ D.az.symm O));have k:x≠z:=λC=>by lia
  exact wpAny_setField_rec l X9 λL Y t=>q L x (λc o hc e=>by simp at hc;exact t.extBut _ _ hc.1 (r _ _ hc.2.2.2.2 (M hc.1 hc.2.2.1 hc.2.2.2.1 e))) ⟨g,t.extBut _ _ k h,i⟩
end
def gI{ch:List Addr}(I:Inv X aa σ H s)(f:∀b∈ch,eZ X aa H b)(k:∀b o,b∉ch->s.heap.get? b=some o->h'.get? b=some o):Inv X aa σ H { s with heap:=h',toks:=t' }:=by
 have M:∀b u,H b=some u->b∉ch:=λb u e z=>by rw[(f b z).1]at e;cases e
 refine I.step (λb hb=>?_) (λb o y y hc e y=>k b o hc e) (λb o y y hc e y=>⟨o.slots,k b o hc e⟩) (λy y y y n=>n)
  (λb o hc e=>⟨o,k b o hc e⟩) (λy y e=>e) (λy y y e=>e) (λy y e=>e) (λm hm=>?_) (λb u e=>?_) I.bare
 .obtain⟨_,f1,_,O,U,a⟩:=f b hb;exact⟨O,f1,U,a⟩
 .obtain⟨o,es,d,g,r⟩:=hm;exact⟨o,es,d,k _ o (λz=>(f _ z).2.1 r4) g,r⟩
 .refine(I.hok b u e).stay (λc v hc=>k c v ?_) (λy q=>q) (λy y q=>q) λy y y q=>q;grind
def wI {X:Cx}{aa:AO}{σ:St}{H:Hp}{s:Shared}{h':Heap}{t':Nat}{ch:List Addr}{a:Addr}{ob:HO}(I:Inv X aa σ H s)(f:∀b∈ch,eZ X aa H b)(k:∀b o,b∉ch->s.heap.get? b=some o->h'.get? b=some o)(ha:s.z<=a)
  (new:aE X.prog X.w (upd H a ob) h' a ob):Inv X aa σ (upd H a ob) { s with heap:=h',toks:=t' }:=by
 have hn:H a=none:=I.hok.fresh ha;have M:∀b u,H b=some u->b∉ch:=λb u e z=>by rw[(f b z).1]at e;cases e
 refine I.step (ch:=ch) (λb hb=>?_) (λb o y y hc e y=>k b o hc e) (λb o y y hc e y=>⟨o.slots,k b o hc e⟩) (λb o y e n=>by rw[af ((λb o e=>vS (vQ (vX e) ha)) b o e)];exact n)
  (λb o hc e=>⟨o,k b o hc e⟩) (λb xs e=>by rw[af (ar e hn)];exact e) (λb o u e=>by rw[af (ar e hn)];exact e) (λb ps e=>by rw[af (ar e hn)];exact e) (λm hm=>?_) (λb u e=>?_) I.bare
 .obtain⟨_,f1,_,O,U,d⟩:=f b hb;exact⟨O,f1,U,d⟩
 .obtain⟨o,es,g,h,r⟩:=hm;exact⟨o,es,g,k _ o (λz=>(f _ z).2.1 r4) h,r⟩
 .by_cases hb:b=a
  .simp_all[ae]
  .rw[af hb]at e;refine(I.hok b u e).stay (λc v hc q=>k c v ?_ q) (λc q=>?_) (λc xs q=>?_) λc o xs q=>?_
   .grind
   .rw[af (ar q hn)];exact q
   .rw[af (ar q hn)];exact q
   .rw[af (ar q hn)];exact q
noncomputable def Y6 (K:Frag)(k1 k2:Bool)(a1 a2:Addr):It:=
  ⟨λi H=>∃xs ys x y,jj k1 K H a1 xs/\jj k2 K H a2 ys/\xs[i]? = some x/\ys[i]? = some y,
   λi H v H'=>∃T x y,v=.ref T/\H T=none/\H'=upd H T (.tup [x,y])/\(∀xs,jj k1 K H a1 xs->xs[i]? = some x)/\(∀ys,jj k2 K H a2 ys->ys[i]? = some y),
   λi H=>∃xs ys,jj k1 K H a1 xs/\jj k2 K H a2 ys/\(xs.length<=i\/ys.length<=i)⟩
def GV {P:Program}{w:World}{K:Frag}{es:QD}{r:Nat}{pt:Pos}{k1 k2:Bool}{a1 a2 z TI TO i1 i2:Addr}(Z:ZA z TI TO i1 i2 a1 a2):
  Turn P w K (.Tuple es r pt) (Y6 K k1 k2 a1 a2) [z,TI,TO,i1,i2] z (λi h=>IsZip h z TI TO .none/\IsPair h TI (.ref i1) (.ref i2)/\(∃a b,IsPair h TO a b)/\hJ k1 h i1 a1 i/\hJ k2 h i2 a2 i) where
 mem:=X9
 obj:=λi h st b hb=>by
  obtain⟨hz,O,⟨a,c,U⟩,t1,t2⟩:=st;simp at hb;rcases hb with rfl|rfl|rfl|rfl|rfl
  .simp_all
  .simp_all
  .simp_all
  .exact t1.ob
  .exact t2.ob
 keep:=λi h h' st k=>by
  obtain⟨hz,O,⟨a,c,U⟩,t1,t2⟩:=st;exact⟨k z X9 _ hz,k TI X9 _ O,⟨a,c,k TO X9 _ U⟩,t1.upon λo e=>k i1 X9 o e,t2.upon λo e=>k i2 X9 o e⟩
 item:=by
  intro X g hw j hc i aa s σ H E I hf st l;subst g hw j;obtain⟨hz,O,⟨a,c,U⟩,t1,t2⟩:=st;obtain⟨xs,ys,x,y,f,q2,hx,hy⟩:=l;obtain⟨its,m,n,t⟩:=f.vals I;obtain⟨A,p,p2,B⟩:=q2.vals I;obtain⟨u,hu,ru⟩:=m.get hx;obtain⟨v,C,F⟩:=p.get hy;have d:s.TypeIs (.ref z) "zip":=⟨_,hz,r4⟩;have fresh:H s.z=none:=I.hok.fresh (vT _);have lt:∀ {c o},s.heap.get? c=some o->c≠s.z:=λe=>vS (vX e);have l1:i1≠s.z:=by obtain⟨o,e,Y⟩:=t1.ob;exact lt e
  have l2:i2≠s.z:=by obtain⟨o,e,Y⟩:=t2.ob;exact lt e
  unfold pyNext;refine wX (wpAny_attempt (wpAny_callSpecial?_slot (name:=Str.ofString "__next__") d slot_zip_next (wpAny_call_entry slot_zip_next d entry_zip_next (wH Z hz O U t1 t2 n p2 (by simpa using hu) (by simpa using C) λh' b1 b2 G J L W bI bk=>wY ?_) (args_zip_next_1 _))));refine⟨_,r4,wpAny_letOwnedTupleGo_zip (s:={ s with heap:=h' }) b1 λh2 N s2=>?_⟩;have M:Heap.SameBut z h' h2:=s2;have Q:∀b o,b∉[z,TI,TO,i1,i2]->s.heap.get? b=some o->h2.get? b=some o:=λb o hb e=>
   M.extBut _ _ (λq=>hb (by simp[q])) (bk b o hb e)
  have R:s.z≠z:=(lt hz).symm;have new:aE X.prog X.w (upd H s.z (.tup [x,y])) h2 s.z (.tup [x,y]):=⟨by show 2<=sizeLine;decide,[u,v],.cons ru (.cons F .nil),⟨_,M.extBut _ _ R L,r4,_,r4⟩⟩;refine⟨.ref s.z,upd H s.z (.tup [x,y]),?_,r4,⟨_,x,y,r4,fresh,r4,λzs hq=>by rw[jj.inj I hq f];exact hx,λzs hq=>by rw[jj.inj I hq q2];exact hy⟩,?_,λb hb=>?_⟩
  .exact wI (s:=s) (t':=s.toks) I hf Q (vT _) new
  .exact⟨N,M.extBut _ _ Z.D.tz bI,⟨_,_,M.extBut _ _ Z.D.oz b2⟩,G.upon λo e=>M.extBut _ _ Z.D.az e,J.upon λo e=>M.extBut _ _ Z.D.bz e⟩
  .have S:b≠s.z:=by
    simp at hb;rcases hb with rfl|rfl|rfl|rfl|rfl
    .exact lt hz
    .exact lt O
    .exact lt U
    .exact l1
    .exact l2
   rw[af S];exact(hf b hb).1
 done:=by
  intro X g hw j hc i aa s σ H E I hf st l;subst g hw j;obtain⟨hz,O,⟨a,c,U⟩,t1,t2⟩:=st;obtain⟨xs,ys,f,q2,hl⟩:=l;obtain⟨its,m,n,t⟩:=f.vals I;obtain⟨A,p,p2,B⟩:=q2.vals I;have d:s.TypeIs (.ref z) "zip":=⟨_,hz,r4⟩;have n1:=m.length;have n2:=p.length;unfold pyNext;refine wX (wpAny_attempt (wpAny_callSpecial?_slot (name:=Str.ofString "__next__") d slot_zip_next (wpAny_call_entry slot_zip_next d entry_zip_next (AU (I.ok.hd hc) Z hz O U t1 t2 n p2 (hl.imp (λq=>by simp;lia) λq=>by simp;lia) λh' x hk hX=>?_) (args_zip_next_1 _))));obtain⟨o,V,co⟩:=hX;refine wX (wpAny_isInstance (T:="StopIteration") (b:=true) ⟨o,V,co⟩ isSubtype_stop (wY ⟨r4,?_⟩));exact gI (t':=s.toks) I hf hk
 self:=λY Y Y Y Y st h=>wpAny_pyIter_zip st.1 h
section
variable {X:Cx}{a b e:Expr}{pos:Pos}{p:Pos}
def NO:bootBuiltins "zip" = some (.type "zip"):=O9
inductive JY (K:Frag)(R:It->Hp->Prop)(vs:List V)(M:Hp):Prop|mk (k1 k2:Bool)(l1 l2:Addr)(xs ys:LV):vs=[.ref l1,.ref l2]->jj k1 K M l1 xs->jj k2 K M l2 ys->R (Y6 K k1 k2 l1 l2) M->JY K R vs M
def TN (K:Frag)(ta:TA):TI:=λσ H R=>ta σ H λvs M=>JY K R vs M
def wJ {Q:QV}{E:QV}{A:Around}(M:Inv X aa σ H1 s1)(h1:jj k1 X.K H1 l1 xs)(h2:jj k2 X.K H1 l2 ys)
  (q:∀h' z TI TO i1 i2,Inv X aa σ H1 { s1 with heap:=h' }->ZA z TI TO i1 i2 l1 l2->IsZip h' z TI TO .none->IsPair h' TI (.ref i1) (.ref i2)->IsPair h' TO .none .none->hJ k1 h' i1 l1 0->hJ k2 h' i2 l2 0->(∀b∈[z,TI,TO,i1,i2],eZ X aa H1 b)->Q (.ref z) { s1 with heap:=h' }):
  wpAny (model X.prog X.w) A (call (.type "zip") [.ref l1,.ref l2]) Q E s1:=by
 refine cX λG W=>?_;obtain⟨its,k,U,l⟩:=h1.vals M;obtain⟨m,n,p2,o⟩:=h2.vals M;apply W;clear W;have Um:=U.lt;have c:=p2.lt;refine L4 U p2 λh' d f g h i j=>q h' _ _ _ _ _ (M.kept (t':=s1.toks) j) ⟨by constructor<;>simp,N9,N9⟩ d f g h i λb hb=>?_
 have O:s1.z<=b:=by
  grind
 exact M.fpOk O (M.hok.fresh O)
def PY(f:Gl X "zip")(hm:X.mg "zip" = none)(ha:PA X [a,b] ta)(hs:autoParam (starEach [a,b] X.env=[(false,eval a X.env),(false,eval b X.env)]) I9._auto_1)(M:autoParam (ce b X.env) I9._auto_1):
  PI X (.Tuple es d pt) (.Call (.Name "zip" p) [a,b] [] pos) (TN X.K ta):=by
 intro aa s σ H R I h;refine Call_ (dn I f hm NO (PyProof.Rows.callWith_type1 (aV (ha _ _ s σ H _ I h) λus s1 ⟨vs,g,i,j,k⟩=>?_) (by rw[hs,M]) (by rw[M];rfl)));obtain⟨k1,k2,l1,l2,xs,ys,rfl,h1,h2,q⟩:=k;obtain⟨r,t,rfl,O,U⟩:=j.two;cases O
 cases U
 exact wJ i h1 h2 λh' z TI TO i1 i2 J Z c l m n o fp=>wpAny_pyIter_zip c ⟨_,_,_,_,g,r4,J,GV Z,⟨c,l,⟨_,_,m⟩,n,o⟩,fp,q⟩
noncomputable def gW (xs ys:LD):LD:=List.zipWith (λx y=>.tup [x,y]) xs ys
@[simp] def L5 (fa M:FE):FA:=λρ=>(fa ρ).bind λx=>(M ρ).bind λy=>(gU x.1).bind λxs=>(gU y.1).map λys=>gW xs ys
def rB {K:Frag}(h:Is K B v d)(e:gU d=some ds):∃k a vs,v=.ref a/\jj k K B a vs/\IsL K B vs ds:=by
 cases h with
 |tup M hl=>cases e;exact⟨false,_,_,r4,M,hl⟩
 |lst M hl=>cases e;exact⟨true,_,_,r4,M,hl⟩
 |_=>cases e
def PZ {H s}(I:Inv X aa σ H s)(h1:jj k1 X.K N l1 vs)(i1:IsL X.K N vs ds)(h2:jj k2 X.K N l2 ws)(i2:IsL X.K N ws es):iq X.K (Y6 X.K k1 k2 l1 l2) N (gW ds es):=by
 intro i H' M;have n1:=i1.length;have n2:=i2.length;refine⟨λd ed=>?_,λhl=>⟨vs,ws,h1.same M,h2.same M,?_⟩⟩
 .unfold gW at ed;rw[List.getElem?_zipWith]at ed;cases O:ds[i]? with
  |none=>rw[O]at ed;simp at ed
  |some x=>
   cases e2:es[i]? with
   |none=>rw[O,e2]at ed;simp at ed
   |some y=>
    rw[O,e2]at ed;simp at ed;subst ed;obtain⟨v,ev,iv⟩:=i1.get O;obtain⟨w,c,h⟩:=i2.get e2;refine⟨⟨vs,ws,v,w,h1.same M,h2.same M,ev,c⟩,λr H2 hy=>?_⟩;obtain⟨T,k,l,rfl,j,rfl,f1,f2⟩:=hy;have f:=f1 vs (h1.same M);have g:=f2 ws (h2.same M);rw[ev]at f;cases f;rw[c]at g;cases g;have U:=Ext.laid (o:=.tup [v,w]) M j;exact⟨_,U,.tup (dM.of ae) (.cons (iv.mono U.bn) (.cons (h.mono U.bn) .nil))⟩
 grind[gW]
def GW(hm:X.mg "zip" = none)(ha:JE X a fa)(hb:JE X b f)(h:autoParam (Gl X "zip") I9._auto_1)(hs:autoParam (starEach [a,b] X.env=[(false,eval a X.env),(false,eval b X.env)]) I9._auto_1)(O:autoParam (ce b X.env) I9._auto_1):
  JI X (.Tuple es g pt) (.Call (.Name "zip" p) [a,b] [] pos) (L5 fa f):=by
 intro aa s σ H R I q;refine PY h hm (ag ha (ag hb aB O) (by rw[bE,hs,O])) hs O _ s σ H R I ?_;refine cX λG K=>?_;obtain⟨B,ρ,ds,i,r,M,q⟩:=q;refine eX M λj ex M=>?_;refine eX M λk l M=>eX M λxs U M=>?_;apply K;refine eB M λys m M=>?_;subst M;refine⟨B,ρ,[j.1,k.1],i,r,by simp[ex,l],λvs n N1 c i1=>?_⟩;cases i1 with
 |cons o d=>
  cases d with
  |cons d t=>
   cases t
   obtain⟨k1,l1,us,rfl,s1,m1⟩:=rB o U;obtain⟨k2,l2,ws,rfl,s2,m2⟩:=rB d m;exact⟨k1,k2,l1,l2,us,ws,r4,s1.same c.nh,s2.same c.nh,q _ n N1 c (PZ I s1 m1 s2 m2)⟩
end
noncomputable def unown1 (ρ:Env)(i:Nat):Env:=match ρ[i]? with
 |some (some (d,true))=>ρ.set i (some (d,false))
 |_=>ρ
set_option tactic.hygienic true in
def cy.unown1 {K:Frag}{B0 H0 N H:Hp}{σ:St}{ρ:Env}(s:cy K B0 H0 N H σ ρ)(i:Nat):cy K B0 H0 N H σ (unown1 ρ i):=by
 unfold DL.unown1;split
 .rename_i d hd;obtain⟨a,ob,h1,h2,h3,h4⟩:=s.ow i d hd;have get:∀ {j:Nat}{e:D}{b:Bool},(ρ.set i (some (d,false)))[j]? = some (some (e,b))->(i=j/\e=d/\b=false)\/(i≠j/\ρ[j]? = some _):=λq=>by
   rcases bg q with⟨z,p⟩|⟨z,p⟩
   .cases p;exact .inl ⟨z,r4,r4⟩
   .exact .inr ⟨z,p⟩
  have o:∀c,own σ (ρ.set i (some (d,false))) c->own σ ρ c/\c≠a:=λc ⟨j,e,O,q2⟩=>by
   rcases get O with⟨_,_,z⟩|⟨ne,q⟩
   .cases z
   .exact⟨⟨j,e,q,q2⟩,λz=>by subst z;exact ne (s.inj i j _ _ _ hd q h1 q2)⟩
  have c:au (cE N (own σ ρ)) _:=cM λb u e q=>⟨e,λz=>q (o b z).1⟩;have na:=λz=>(o a z).2 r4;refine⟨s.bh,s.tb,s.ext,by rw[length_set];exact s.len,λj e q=>?_,λj e q=>?_,λj k b e f q M U g=>?_⟩
  .rcases get q with⟨rfl,rfl,_⟩|⟨_,q⟩
   .exact⟨_,h1,(h4.mono c).is (by rw[bF na];exact h2)⟩
   .obtain⟨v,k1,k2⟩:=s.sh j e q;exact⟨v,k1,k2.mono c⟩
  .rcases get q with⟨_,_,z⟩|⟨_,q⟩
   .cases z
   .obtain⟨h,o',k1,k2,k3,l⟩:=s.ow j e q;exact⟨h,o',k1,k2,k3,l.mono c⟩
  .rcases get q with⟨_,_,z⟩|⟨_,q⟩
   .cases z
   .rcases get M with⟨_,_,z⟩|⟨_,M⟩
    .cases z
    .exact s.inj j k b e f q M U g
 .exact s
@[simp] noncomputable def Y7 (is:LN)(g:FS):FS:=λρ=>g (is.foldl unown1 ρ)
theorem cy.unowns {K:Frag}:∀(is:LN){ρ:Env},cy K B0 H0 N H σ ρ->cy K B0 H0 N H σ (is.foldl DL.unown1 ρ)
 |[],_,s=>s
 |i::is,_,s=>cy.unowns is (s.unown1 i)
def Qa {K:Frag}(q:jw K (Y7 is g) E σ H):jw K g E σ H:=by
 refine cX λG k=>?_;obtain⟨B0,H0,ρ,r,⟨N,s⟩,e,p⟩:=q;apply k;exact⟨B0,H0,_,r,⟨N,s.unowns is⟩,e,p⟩
def TQ{st:Stmt}is(h:JS X st g):JS X st (Y7 is g):=PS.to h λz z z=>Qa
@[simp] def NP:FS:=λρ=>some (.ct ρ)
@[simp] def gJ:FS:=λz=>none
section
variable {X:Cx}{pos:Pos}
def L6:JS X (.Continue pos) NP:=PS.to wa λE σ H q=>by
 refine cX λG g=>?_;obtain⟨B0,H0,ρ,r,s,e,p⟩:=q;apply g;cases e
 exact p σ H s
def GX {st:Stmt}:JS X st gJ:=λaa s σ H E I q=>by
 refine cX λG g=>?_;obtain⟨B0,H0,ρ,r,z,e,z⟩:=q;cases e
end
inductive CRows (K:Frag)(P:Params):List DictEntry->List (Str×D)->Prop where
 |nil:CRows K P [] []
 |tup {x:Str}{t:Tok}{h:Int}{a:Addr}{its:Array Value}{n:Nat}{gZ:Array (Option Value)}{ds:List D}{r:List DictEntry}{ay:List (Str×D)}(hh:h=PyData.keyHash P x)
   (l:K.lookup a=some ⟨.type "tuple",none,.seq its n,gZ⟩) (f:(decide (its.size<=1000) && gF its.toList ds)=true) (tl:CRows K P r ay):CRows K P (⟨h,.str x t,.ref a⟩::r) ((x,.tup ds)::ay)
 |flat {x:Str}{t:Tok}{h:Int}{u:Value}{d:D}{r:List DictEntry}{ay:List (Str×D)}(hh:h=PyData.keyHash P x) (f:ut u d=true) (tl:CRows K P r ay):CRows K P (⟨h,.str x t,u⟩::r) ((x,d)::ay)
theorem CRows.lit {K:Frag}{es:List DictEntry}{ay:List (Str×D)}(h:CRows K P es ay):PySem.W.KeysLit P es:=h.rec trivial (λa _ _ _ b=>⟨⟨_,_,r4,a⟩,b⟩) λa _ _ b=>⟨⟨_,_,r4,a⟩,b⟩
theorem CRows.find {K:Frag}{P:Params}(y:Str){es:List DictEntry}{ay:List (Str×D)}(h:CRows K P es ay):match ay.lookup y with
  |none=>es.find? (λe=>Value.isStrOf y e.key)=none
  |some d=>∃e v,es.find? (λe=>Value.isStrOf y e.key)=some e/\aA v e.val/\∀B,Is K B v d:=by
 induction h with
 |nil=>rfl
 |@tup x t _ a _ _ _ ds _ _ hh l f _ M=>
  by_cases e:y=x
  .subst e;rw[List.lookup_cons_self];rw[vD]at f;obtain⟨vs,r,i⟩:=gG (K:=K) f.2;exact⟨_,.ref a,List.find?_cons_of_pos (by simp[Value.isStrOf]),r4,λB=>.tup (.inr ⟨_,_,_,l,r4,r4,le_of_lt (lt_of_le_of_lt (mw f.1) Z9),r⟩) (i B)⟩
  .rw[lookup_cons,beq_eq_false_iff_ne.mpr e];have O:Value.isStrOf y (Value.str x t)=false:=by
    rw[Bool.eq_false_iff];intro z;obtain⟨t',q⟩:=Value.isStrOf_shape z;simp_all
   simp only[find?_cons,O];exact M
 |@flat x t _ u d _ _ hh f _ M=>
  by_cases e:y=x
  .subst e;rw[List.lookup_cons_self];obtain⟨v,b,_⟩:=jg (K:=K) (B:=λ_=>none) f;refine⟨_,v,List.find?_cons_of_pos (by simp[Value.isStrOf]),b,λB=>?_⟩;obtain⟨c,U,h⟩:=jg (K:=K) (B:=B) f;have:c=v:=by have g:=b.abs;rw[U.abs]at g;simp_all
   simp_all
  .rw[lookup_cons,beq_eq_false_iff_ne.mpr e];have O:Value.isStrOf y (Value.str x t)=false:=by
    rw[Bool.eq_false_iff];intro z;obtain⟨t',q⟩:=Value.isStrOf_shape z;simp_all
   simp only[find?_cons,O];exact M
inductive kS (K:Frag)(P:Params)(a:Addr)(ay:List (Str×D)):Prop|mk es n:K.lookup a=some ⟨.type "dict",none,.dict es n,#[]⟩->CRows K P es.toList ay->(a == sysModules)=false->kS K P a ay
def const_dict {K:Frag}(e:PySem.W.nsIn K mainGlobals y=some (some (.ref a)))(l:K.lookup a=some ⟨.type "dict",none,.dict es n,#[]⟩)(r:CRows K P es.toList ay)(s:(a == sysModules)=false):
  ∃a,PySem.W.nsIn K mainGlobals y=some (some (.ref a))/\kS K P a ay:=⟨a,e,es,n,l,r,s⟩
section
variable {X:Cx}{a b e:Expr}{pos:Pos}{x:Str}{p:Pos}
def kS.map(I:Inv X aa σ H s)(h:kS X.K X.w.params d ay):∃f:SV,s.heap.MapOf (strKind X.prog X.w) d f/\(d == sysModules)=false /\
  ∀y,match ay.lookup y with|none=>f y=none|some dd=>∃u v,f y=some u/\aA v u/\∀B,Is X.K B v dd:=by
 obtain⟨es,n,l,r,M⟩:=h;refine⟨_,PySem.W.mapOf_K I.kIn l r.lit,M,λy=>?_⟩;have:=r.find y;have O:findBy Value.isStrOf es y=(es.toList.find? λe=>Value.isStrOf y e.key).map (·.val):=by
  simp_all[findBy]
 cases hl:ay.lookup y with
 |none=>simp_all
 |some dd=>
  rw[hl]at this;obtain⟨en,v,U,e2,c⟩:=this;exact⟨en.val,v,by rw[O,U];rfl,e2,c⟩
noncomputable def wK (ay:List (Str×D))(y:Str):Option D:=List.rec none (λp z M=>Bool.rec M (some p.2) (PySem.W.Fast.sEq y p.1)) ay
@[simp] theorem pq y:∀ay:List (Str×D),wK ay y=ay.lookup y
 |[]=>r4
 | (k,d)::r=>by
  show @Bool.rec (λz=>Option D) (wK r y) _ _=_;rw[pq y r,lookup_cons];cases h:y == k with
  |true=>rw[beq_iff_eq.mp h];simp
  |false=>simp[beq_eq_false_iff_ne.mp h]
@[simp] noncomputable def zx (ay:List (Str×D)):D->OB
 |.str y=>(wK ay y).map λd=>(d,false)
 |_=>none
@[simp] noncomputable def zy (ay:List (Str×D)):D->OB
 |.str y=>some (.bl (!(wK ay y).isSome),false)
 |_=>none
set_option tactic.hygienic true in
def nY (h:∃d,X.mg x=some (.ref d)/\kS X.K X.w.params d ay)(hb:JE X b f)(k:autoParam (Gl X x) I9._auto_1)(hd:autoParam (aS x) Z9._auto_1)(hs:k7 b:=by intro _ _;rfl):JE X (.Subscript (.Name x p) b pos) (f1 (zx ay) f):=by
 obtain⟨d,hm,l⟩:=h;have m:Pr X (λx y H Q=>∃z dd,x=.ref d/\y=.str z/\ay.lookup z=some dd/\∀v,(∀B,Is X.K B v dd)->Q v H):=by
  intro O U aa s σ H x y v u Q I n o q hs;obtain⟨z,dd,rfl,rfl,A,q⟩:=q;cases n
  obtain⟨t,rfl⟩:=o;obtain⟨f,i,F,hf⟩:=l.map I;have:=hf z;rw[A]at this;obtain⟨u,v,c,e2,C⟩:=this;exact tail_any i.typeIs slot_dict_getitem.lookup (wpAny_getItem_of (strKind_is X.prog X.w z t) i c ⟨v,H,I.tok _,e2,q v C⟩) hs
 refine PE.to (Gm m (cO (v:=.ref d) k hm r4 hd) hb hs) λσ H Q q=>?_;refine cX λW Y=>?_;obtain⟨B,ρ,d',G,D,r,M,q⟩:=q;refine eX M λg ex M=>?_;apply Y;refine⟨B,ρ,g.1,g.2,D,r,ex,λv J N1 j i1 _=>?_⟩;obtain⟨xd,L⟩:=g;cases i1<;>try (simp[zx]at M;done)
 rename_i z _;refine eB M λdd c e2=>?_;cases e2
 exact⟨z,_,r4,r4,(pq z _).symm.trans c,λv E=>(q.into j).one j.nh (E _)⟩
@[simp] noncomputable def L7:LD->OB
 |[.lst ds]=>some (.lst ds,true)
 |[.tup ds]=>some (.lst ds,true)
 |_=>none
@[simp] noncomputable def kU:LD->OB
 |[.lst ds]=>some (.tup ds,false)
 |[.tup ds]=>some (.tup ds,false)
 |_=>none
set_option tactic.hygienic true in
def Qb:aY X (.type "list") (wl X.K L7):=by
 refine aY.to tO λxs H Q q=>e6 q λB ds d f U i O q=>?_;cases i with
 |nil=>simp at O
 |cons i1 i2=>
  cases i2 with
  |cons _ _=>cases i1<;>simp at O
  |nil=>
   cases i1<;>try (simp at O;done)
   .rename_i c vs es h hl;cases O
    refine⟨_,_,r4,.inr (aG U h),λl hp=>?_⟩;have M:=Ext.laid (o:=.lst vs) U hp;exact q _ _ _ M (.lst (dj.of ae) (hl.mono M.bn)) λ_=>⟨_,_,_,r4,r4,hp,ae,hl.mono M.bn⟩
   .rename_i c vs es h hl;cases O
    refine⟨_,_,r4,.inl (U.seq h),λl hp=>?_⟩;have M:=Ext.laid (o:=.lst vs) U hp;exact q _ _ _ M (.lst (dj.of ae) (hl.mono M.bn)) λ_=>⟨_,_,_,r4,r4,hp,ae,hl.mono M.bn⟩
set_option tactic.hygienic true in
def AW:aY X (.type "tuple") (wl X.K kU):=by
 refine aY.to qN λxs H Q q=>e6 q λB ds d f M i O q=>?_;cases i with
 |nil=>simp at O
 |cons i1 i2=>
  cases i2 with
  |cons _ _=>simp_all
  |nil=>
   cases i1<;>try (simp at O;done)
   .rename_i c vs es h hl;cases O
    exact⟨_,_,r4,.inr ⟨aG M h,q.one M (.tup h hl)⟩⟩
   .rename_i c vs es h hl;cases O
    refine⟨_,_,r4,.inl ⟨M.seq h,λl hp=>?_⟩⟩;have U:=Ext.laid (o:=.tup vs) M hp;exact q _ _ _ U (.tup (dM.of ae) (hl.mono U.bn)) X9
end
section
variable {X:Cx}{a b e:Expr}{pos:Pos}{x:Str}{p:Pos}
inductive J5 (K:Frag)(n:Nat)(t:N6)(v:V)(σ:St)(H:Hp)(Q:St->Hp->Prop):Prop|mk k a xs:v=.ref a->jj k K H a xs->xs.length=n->t xs σ H Q->J5 K n t v σ H Q
def GY (K:Frag)(n:Nat)(t:N6):TG:=λv σ H Q=>J5 K n t v σ H Q
def Qc (hc:X.calm=true)(h:SG X es t)(hn:autoParam ((assignEach es X.env).length=n) I9._auto_1)(M:autoParam ((assignEach es X.env).findIdx? (·.1)=none) I9._auto_1):PG X (.Tuple es kt pos) (GY X.K n t):=by
 intro aa s σ H v u Q I r hw;obtain⟨k,l,xs,rfl,hq,hl,hw⟩:=hw;cases r
 cases k with
 |false=>
  refine I.tupE hq λits O U hz=>?_;refine assign_Tuple_tuple (I.ok.hd hc) U (by simp[hn,<-hl,O.length]) M λh' hx=>?_;have c:=I.kept (t':=s.toks) λb o e=>hx b o (vS (vX e)) e;exact h aa _ σ H xs _ Q c (by simpa using O) hw
 |true=>
  refine I.lisE hq λits O U hz=>?_;refine wX (wpAny_standAt ?_);unfold unpack;have hsz:(assignEach es X.env).length=its.toArray.size:=by simp[hn,<-hl,O.length]
  rw[hsz,M];refine wX (wpAny_holding (PySem.W.kun_itemsOf (I.ok.hd hc) U.isList λh' hx=>?_));have c:=I.kept (t':=s.toks) λb o e=>hx b o (vS (vX e)) e;exact h aa _ σ H xs _ Q c (by simpa using O) hw
@[simp] def wL (is:LN)(f:FE):FS:=λρ=>(f ρ).bind λx=>(gU x.1).bind λds=>(dP is ds (if bP ds=true then ρ else unown ρ)).map .nx
def GZ {K:Frag}{is:LN}{f:FE}{E:Ends}{σ:St}{H:Hp}(q:jw K (wL is f) E σ H):wb (tD K f) (GY K is.length (gH is)) E σ H:=by
 refine cX λG W=>?_;obtain⟨B0,H0,ρ,r,⟨N,s⟩,e,p⟩:=q;refine eX e λx ex e=>eX e λds es e=>?_;apply W;refine eB e λρ' M e=>?_;subst e;refine⟨N,ρ,x.1,x.2,s.ext.nh,s.rep,ex,λv c N1 d i1 z=>?_⟩;obtain⟨k,a,vs,rfl,g,O⟩:=rB i1 es;have s1:=s.grow d;refine⟨k,a,vs,r4,g.same d.nh,by rw[O.length];exact ji M,?_⟩;by_cases hn:bP ds=true
 .rw[if_pos hn]at M;exact jh s1 (s1.flats O hn) M λU s'=>p _ c ⟨N1,s'⟩
 .rw[if_neg hn]at M;exact jh s1.unown (O.mono λa o e=>by rw[bF lQ];exact e) M λU s'=>p _ c ⟨N1,s'⟩
def L8 (he:JE X e f)(M:PG X (.Tuple es O p2) (GY X.K is.length (gH is)))(hs:autoParam (swapsWithSole [.Tuple es O p2] e pos.line X.env=pure false) I9._auto_1)(hw:autoParam (swappedStores [.Tuple es O p2] e X.env=pure none) I9._auto_1)
  (h1:autoParam ((assignEach [.Tuple es O p2] X.env).map (·.2)=[assign (.Tuple es O p2) X.env]) I9._auto_1):JS X (.Assign [.Tuple es O p2] e pos) (wL is f):=PS.to (OZ he M hs hw h1) λz z z=>GZ
@[simp] noncomputable def Qd (i:Nat)(f:FE):FS:=λρ=>match ρ[i]? with
 |some (some (.lst ds,true))=>(f ρ).bind λx=>match x.1 with
  |.lst es=>if x.2=true/\bP es=true/\ds.length+es.length<=sizeLine then some (.nx (ρ.set i (some (.lst (ds++es),true))))else none
  |_=>none
 |_=>none
def Qe (he:JE X e f)(j:X.N[i]? = some y)(k:Kf X.env.scope y)(hd:aS y)
  (m:km y)
  (O:attributeBase (.Name y py) "extend" X.env (eval (.Name y py) X.env)=eval (.Name y py) X.env)
  (n:m4 aO e X.env)
  (U:(aW.endLine == aO.line)=true) (hs:ce e X.env) (o:swapsWith (.Call (.Attribute (.Name y py) "extend" aW) [e] [] aO) none pos.line X.env=pure false):
  JS X (.Expr (.Call (.Attribute (.Name y py) "extend" aW) [e] [] aO) pos) (Qd i f):=by
 refine PS.to (ft (oQ plainAttrs_list PySem.F.slot_list_extend PySem.F.type_list_extend El (aF j k hd m) (av he aN hs) O n U hs r4) o) λE σ H q=>?_;refine cX λG K=>?_;obtain⟨B0,H0,ρ,r,⟨N,s⟩,M,p⟩:=q;apply K;clear K;unfold Qd at M;split at M
 .rename_i ds ei;refine eX M λv ev M=>?_;obtain⟨t,A⟩:=v;cases t with
  |lst es=>
   dsimp at M;split at M
   .rename_i hc;cases M
    refine cX λG K=>?_;obtain⟨l,vs,c,z,h1,h2,h3,h4⟩:=s.owL i _ ei;apply K;clear K;refine⟨_,h1,.inl ⟨r4,vs,dj.of (s.ext.nh _ _ h2)⟩,N,ρ,_,_,s.ext.nh,s.rep,ev,λB C N1 d i1 f1=>?_⟩;obtain⟨l2,ws,D,rfl,z,g1,u,g⟩:=f1 hc.1;cases z
    have s1:=s.grow d;refine cX λG K=>?_;obtain⟨l',w,c,z,k1,k2,_,h⟩:=s1.owL i _ ei;apply K;clear K;cases z
    rw[h1]at k1;cases k1;exact⟨l,l2,w,ws,r4,r4,s1.ext.nh _ _ k2,d.nh _ _ u,by rw[h.length,g.length];exact hc.2.2,p σ _ ⟨_,s1.write ei h1 (h.append (s1.flats g hc.2.1))⟩⟩
   .cases M
  |_=>cases M
 simp_all
@[simp] noncomputable def Y8:LD->OB
 |[.int i]=>some (.int i,false)
 |[.bl b]=>some (.int (if b then 1 else 0),false)
 |_=>none
def Ha:aY X (.type "int") (wl X.K Y8):=by
 refine aY.to Eg λxs H Q q=>e6 q λB ds d U O i M q=>?_;cases i with
 |nil=>simp at M
 |cons i1 i2=>
  cases i2 with
  |cons _ _=>cases i1<;>simp at M
  |nil=>
   cases i1<;>try (simp at M;done)
   .cases M
    exact .inr ⟨_,r4,q.one O (.int _)⟩
   .cases M
    exact .inl ⟨_,r4,q.one O (.int _)⟩
end
open AutoSeq1 (wpAny_loadPart')
noncomputable def sqT (k:Bool):String:=if k=true then "list" else "tuple"
set_option tactic.hygienic true in
def wM (k:Bool)(l:Addr)(items:AV)(n:Nat)(M:Option Addr)(sl:Array (Option Value)):
  Meets (Builtin.«enumerate.__new__» ⟨[.type "enumerate",.ref l],[]⟩) (λ_ R s=>s.heap.get? l=some { cls:=.type (sqT k),dict:=M,data:=.seq items n,slots:=sl } /\
   R (.ok (.ret (.ref (s.heap.push (Lz k l)).objs.size))) { s with heap:=(s.heap.push (Lz k l)).push { cls:=.type "enumerate",data:=.fields #[.none,.bool false,.ref s.z,rawInt 0,.none,.none] } }):=
 .of_wp λprog w A R s hs=>by
  obtain⟨hp,g,d,tk,os⟩:=s;obtain⟨hl,hs⟩:=hs;have U:=sub_enumerate;have O:iz k (Shared.heap ⟨hp,g,d,tk,os⟩) l items:=by cases k<;>exact⟨_,hl,r4,n,r4⟩
  wp_walk using wpAny_loadPart' hl;refine wpAny_stack_any λst=>wY ?_;split
  .rename_i c _ _ _ _ _;cases (c == Value.type _)
   .wp_walk using wpAny_loadPart' hl,kR O;exact⟨_,r4,hs⟩
   .wp_walk using wpAny_loadPart' hl,kR O;exact⟨_,r4,hs⟩
  .wp_walk using wpAny_loadPart' hl,kR O;exact⟨_,r4,hs⟩
section
variable {prog:Program}{w:World}{A:Around}{E:QV}{s:Shared}
def Hb (U:iz k s.heap l items)
  (q:∀h',IsEnum h' (s.z+1) s.z 0 .none->hJ k h' s.z l 0->(∀b o,s.heap.get? b=some o->h'.get? b=some o)->Q (.ref (s.z+1)) { s with heap:=h' }):
  wpAny (model prog w) A (call (.type "enumerate") [.ref l]) Q E s:=by
 have hh:∃(M:Option Addr)(sl:Array _)(n:Nat),s.heap.get? l=some { cls:=.type (sqT k),dict:=M,data:=.seq items n,slots:=sl }:=by
  cases k<;>(obtain⟨⟨c,M,dt,sl⟩,hl,hc,n,hd⟩:=U;subst hc;subst hd;exact⟨M,sl,n,hl⟩)
 obtain⟨M,sl,n,hl⟩:=hh;refine callType_new PySem.F.called_enumerate Z9 (PySem.F.typeCall_enumerate_1 _) (PySem.F.newCall_enumerate_1 _) (λobj=>PySem.F.args_object_init_2 obj _) PySem.F.entry_enumerate_new (wM k l items n M sl) ⟨hl,?_⟩;have n1:(s.heap.push (Lz k l)).objs.size=s.z+1:=Heap.size_push ..;have O:((s.heap.push (Lz k l)).push { cls:=.type "enumerate",data:=.fields #[.none,.bool false,.ref s.z,rawInt 0,.none,.none] }).get? _=some _:=vY _ r4;have g1:((s.heap.push (Lz k l)).push { cls:=.type "enumerate",data:=.fields #[.none,.bool false,.ref s.z,rawInt 0,.none,.none] }).get? _=some _:=vZ _ (vY _ (by cases k<;>rfl))
 rw[n1]at O;rw[n1];refine⟨⟨_,O,r4⟩,q _ O ?_ λb o e=>vZ _ (vZ _ e)⟩;cases k<;>exact⟨_,g1,r4,r4⟩
def Qf (b:A.handled=none)it l(M:l≠it)items:Draws prog w A it [it,l] items.size (λi v=>items[i]? = some v) (λi h=>hJ k h it l i/\iz k h l items) where
 live:=λi h st=>let ⟨o,e,_⟩:=st.1.ob;⟨o,e⟩
 frame:=λi h h' st U=>⟨st.1.upon λo=>U it X9 o,st.2.upon λo=>U l X9 o⟩
 item:=λi s Q E hi st q=>dv st.1 st.2 (v:=items[i]) (by simp ) λh' O a=>q _ h' _ (by simp ) ⟨O,st.2.upon λo=>a.extBut _ _ M⟩ a
 done:=λs Q E st=>gm b st.1 st.2 X9
def Qg (O:A.handled=none)it l(items)n(hn:items[n]? = none):Draws prog w A it [it,l] n (λz z=>True) (λi h=>(hJ k h it l i/\iz k h l items)/\i=n) where
 live:=λi h st=>let ⟨o,e,_⟩:=st.1.1.ob;⟨o,e⟩
 frame:=λi h h' st M=>⟨⟨st.1.1.upon λo=>M it X9 o,st.1.2.upon λo=>M l X9 o⟩,st.2⟩
 item:=λi s Q E hi st q=>absurd st.2 (vS hi)
 done:=λs Q E st=>gm O st.1.1 st.1.2 hn
end
noncomputable def Y9 (K:Frag)(k:Bool)(a:Addr):It:=
  ⟨λi H=>∃xs x,jj k K H a xs/\xs[i]? = some x,
   λi H v H'=>∃T x,v=.ref T/\H T=none/\H'=upd H T (.tup [.int i,x])/\∀xs,jj k K H a xs->xs[i]? = some x,
   λi H=>∃xs,jj k K H a xs/\xs.length<=i⟩
def E9 {P:Program}{w:World}{K:Frag}{es:QD}{y:Nat}{pt:Pos}{k:Bool}{a e it:Addr}(O:e≠it)(f:a≠e)(g:a≠it):
  Turn P w K (.Tuple es y pt) (Y9 K k a) [e,it] e (λi h=>(∃M,IsEnum h e it i M)/\hJ k h it a i) where
 mem:=X9
 obj:=λi h st b hb=>by
  obtain⟨⟨M,he⟩,t1⟩:=st;simp at hb;rcases hb with rfl|rfl
  .simp_all
  .exact t1.ob
 keep:=λi h h' st c=>by
  obtain⟨⟨M,he⟩,t1⟩:=st;exact⟨⟨M,c e X9 _ he⟩,t1.upon λo q=>c it X9 o q⟩
 item:=by
  intro X j hw l hc i aa s σ H E I hf st m;subst j hw l;refine cX λW Y=>?_;obtain⟨⟨M,he⟩,t1⟩:=st;obtain⟨xs,x,d,hx⟩:=m;obtain⟨its,n,p,B⟩:=d.vals I;obtain⟨u,hu,ru⟩:=n.get hx;apply Y;clear Y;have fresh:=I.hok.fresh (vT _);have r:i<its.toArray.size:=by rw[vH];exact(vV hu).1
  have t:e≠s.z:=vS (vX he);have C:it≠s.z:=by obtain⟨o,q,Z⟩:=t1.ob;exact vS (vX q)
  refine wpAny_pyNext_enum_itemD (Qf (A:=X.A.in1) (I.ok.hd hc) it a g its.toArray) he ⟨t1,p⟩ r O (by simp[O,f.symm]) λv h' tk N D F G hsz hk=>?_;have ev:v=u:=by
   simp_all
  subst ev;refine⟨_,r4,wpAny_letOwnedTupleGo_enum D λh2 J s2=>?_⟩;have U:Heap.SameBut e h' h2:=s2;have c:∀b o,b∉[e,it]->s.heap.get? b=some o->h2.get? b=some o:=λb o hb q=>U.extBut _ _ (λz=>hb (by simp[z])) (hk b o (λz=>hb (by simp[z])) (λz=>hb (by simp[z])) q);have new:aE X.prog X.w (upd H s.z (.tup [.int i,x])) h2 s.z (.tup [.int i,x]):=⟨by show 2<=sizeLine;decide,[.int i tk,v],.cons ⟨tk,r4⟩ (.cons ru .nil),⟨_,U.extBut _ _ t.symm G,r4,_,r4⟩⟩;refine⟨.ref s.z,upd H s.z (.tup [.int i,x]),wI (s:=s) (t':=tk+1) I hf c (vT _) new,r4,⟨_,x,r4,fresh,r4,λzs hq=>by rw[jj.inj I hq d];exact hx⟩,?_,λb hb=>?_⟩
  .exact⟨⟨_,by have:=J;exact this⟩,F.1.upon λo q=>U.extBut _ _ O.symm q⟩
  .have L:b≠s.z:=by
    simp at hb;rcases hb with rfl|rfl
    .exact t
    .exact C
   rw[af L];exact(hf b hb).1
 done:=by
  intro X j hw l hc i aa s σ H E I hf st m;subst j hw l;refine cX λW Y=>?_;obtain⟨⟨M,he⟩,t1⟩:=st;obtain⟨xs,d,hl⟩:=m;obtain⟨its,n,p,B⟩:=d.vals I;apply Y;clear Y;have n1:=n.length;refine wpAny_pyNext_enum_endD (Qg (A:=X.A.in1) (I.ok.hd hc) it a its.toArray i W9) he ⟨⟨t1,p⟩,r4⟩ λh' hk=>⟨r4,?_⟩;exact gI (t':=s.toks) I hf λb o hb q=>hk b o (λz=>hb (by simp[z])) q
 self:=λZ Z Z Z Z st h=>let ⟨⟨_,he⟩,_⟩:=st;wpAny_pyIter_enum he h
section
variable {X:Cx}{a b e:Expr}{pos:Pos}{p:Pos}
def mE:bootBuiltins "enumerate" = some (.type "enumerate"):=O9
noncomputable def mF (ds:LD):LD:=ds.mapIdx λi d=>.tup [.int i,d]
@[simp] def NQ (fa:FE):FA:=λρ=>(fa ρ).bind λx=>(gU x.1).map mF
def L9 {K:Frag}{N:Hp}{k:Bool}{l:Addr}{vs:LV}{ds:LD}(h1:jj k K N l vs)(i1:IsL K N vs ds):iq K (Y9 K k l) N (mF ds):=by
 intro i H' M;have n1:=i1.length;refine⟨λd ed=>?_,λhl=>⟨vs,h1.same M,?_⟩⟩
 .unfold mF at ed;rw[List.getElem?_mapIdx]at ed;obtain⟨x,c,rfl⟩:=oY ed;obtain⟨v,ev,iv⟩:=i1.get c;refine⟨⟨vs,v,h1.same M,ev⟩,λr H2 hy=>?_⟩;obtain⟨T,g,rfl,f,rfl,f1⟩:=hy;have O:=f1 vs (h1.same M);rw[ev]at O;cases O;have U:=Ext.laid (o:=.tup [.int i,v]) M f;exact⟨_,U,.tup (dM.of ae) (.cons (.int _) (.cons (iv.mono U.bn) .nil))⟩
 simp_all[mF]
def LA {es:QD}{h:Nat}{pt:Pos}{fa:FE}(hm:X.mg "enumerate" = none)(ha:JE X a fa)(i:Gl X "enumerate")(hs:ce a X.env):
  JI X (.Tuple es h pt) (.Call (.Name "enumerate" p) [a] [] pos) (NQ fa):=by
 intro aa s σ H R I q;refine Call_ (dn I i hm mE (PyProof.Rows.callWith_type1 (aV (ag ha aB hs _ _ s σ H (λvs M=>∃(k:Bool)(l:Addr)(us:LV),vs=[.ref l]/\jj k X.K M l us/\R (Y9 X.K k l) M) I ?_) λus s1 ⟨vs,M,c,j,m⟩=>?_) hs r4))
 .refine cX λG W=>?_;obtain⟨B,ρ,ds,n,r,O,q⟩:=q;refine eX O λo ex O=>?_;apply W;clear W;refine eB O λxs t O=>?_;subst O;refine⟨B,ρ,[o.1],n,r,by simp[ex],λvs M N1 d i1=>?_⟩;cases i1 with
  |cons u v=>
   cases v
   obtain⟨k1,l1,us,rfl,s1,m1⟩:=rB u t;exact⟨k1,l1,us,r4,s1.same d.nh,q _ M N1 d (L9 s1 m1)⟩
 .obtain⟨k,l,ws,rfl,h1,q⟩:=m;obtain⟨z,rfl,w⟩:=j.one;cases w
  obtain⟨its,A,f,C⟩:=h1.vals c;have Um:=f.lt;refine Hb f λh' g x y=>?_;refine wpAny_pyIter_enum g ⟨s1.z+1,[s1.z+1,s1.z],_,_,M,r4,c.kept y,
   E9 (Nat.succ_ne_self _) (vS (lt_succ_of_lt Um)) (vS Um),⟨⟨_,g⟩,x⟩,λb hb=>?_,q⟩
  have U:s1.z<=b:=by
   grind
  exact c.fpOk U (c.hok.fresh U)
end
end DL
namespace DL
open PySem PySem.Spec PyProof.Rows
set_option tactic.hygienic true in
def EA (t)es n:(relayAll t es n).2.1.led=t.led:=by
 unfold relayAll;split
 .rename_i t' M h;refine eX h λow _ h=>?_;cases h
  dsimp ;split<;>rfl
 .rfl
set_option tactic.hygienic true in
def wN (t)es n(hp:t.plain=false):(relayAll t es n).2.1.plain=false:=by
 unfold relayAll;split
 .rename_i t' M h;refine eX h λow _ h=>?_;cases h
  dsimp ;split
  .exact hp
  .rfl
 .rfl
def LB (t)es(h)x:(layNew t es h x).2.1.led=t.led:=by
 unfold layNew;split
 .dsimp [SetTable.orStandIn];repeat' (first|rfl|split)
 .rfl
structure TabT (w:World)(es:Array (Int×Value))(t:SetTable):Prop where
 fits:t.fits es.size=true
 led:t.led = !w.params.followText "set-order"
 plain:es.size≠0->t.plain=false
inductive gK (prog:Program)(w:World)(h:Heap)(a:Addr)(ts:LS):Prop|mk o es M t:h.get? a=some o->o.ExactSet->o.data=.set es M t->ElemsOf (PySem.strKind prog w) es.toList->(es.toList.map (λe=>strOf e.2)).Perm ts->ts.Nodup->ts.length<scanBound->TabT w es t->gK prog w h a ts
noncomputable def gX (ts:LS)(x:Str):LS:=if x∈ts then ts else ts++[x]
theorem Hd (ts)x:(gX ts x).length<=ts.length+1:=by unfold gX;split<;>simp
theorem wO (h:Value.isStrOf k v=true):strOf v=k:=by obtain⟨t,rfl⟩:=Value.isStrOf_shape h;rfl
section
variable {prog:Program}{w:World}{A:Around}{E:QV}{s:Shared}
def rC {es:Array (Int×Value)}(M:ElemsOf (PySem.strKind prog w) es.toList)(hp:(es.toList.map (λe=>strOf e.2)).Perm ts)k:k∈ts ↔ ∃e∈es.toList,(PySem.strKind prog w).is k e.2=true:=by
 rw[<-hp.mem_iff,mem_map];constructor
 .rintro⟨e,he,rfl⟩;obtain⟨⟨k',hk,z⟩,z⟩:=M e he;have O:Value.isStrOf k' _=true:=hk;grind[wO]
 .rintro⟨e,he,hk⟩;exact⟨e,he,wO hk⟩
def rE {h:Heap}(U:h.get? a=some o)(hd:o.data=.set es O t)M t':
  (h.update a (Obj.putSet M t')).get? a=some { o with data:=.set M (O+1) t' }:=by
 have:=Heap.get?_update_self (Obj.putSet _ t') U (by rw[putSet_of M t' hd];rfl);rw[putSet_of _ t' hd]at this;exact this
def wP {g:Bool->Sem Unit}(z:∀(b:Bool)(c:Shared)(m:Unit->Shared->Prop),m () c->wpAny (model prog w) A (g b) m E c)
  {a:Addr}{o:Obj}{es:Array (Int×Value)}{B:Nat}{t:SetTable}(n:s.heap.get? a=some o) (p:o.ExactSet) (hd:o.data=.set es B t)
  {M:Array (Int×Value)}{t2:SetTable}{ts:LS}(q:ElemsOf (PySem.strKind prog w) M.toList) (f:(M.toList.map (λe=>strOf e.2)).Perm ts) (nd:ts.Nodup)
  (U:ts.length<scanBound) (i:t2.fits M.size=true) (r:t2.led = !w.params.followText "set-order") (hpl:t2.plain=false) {O:Bool}{R:Option Bool->Shared->Prop}
  (h:∀h',Heap.SameBut a s.heap h'->gK prog w h' a ts->R (some true) { s with heap:=h' }):
  wpAny (model prog w) A (do
    storeSet a M t2
    if(!O && t2.tooFull)=true then do
      g (relayAll t2 M (SetTable.grown M.size)).2.2
      storeSet a (relayAll t2 M (SetTable.grown M.size)).1 (relayAll t2 M (SetTable.grown M.size)).2.1
      pure (some true)
     else pure (some true)) R E s:=by
 have d:M.size=ts.length:=by rw[<-f.length_eq,vI,vG]
 refine wX (wpAny_storeSet_of n hd ?_ (fits_of_scanBound (by rw[d];exact U)));have j:=rE n hd M t2;have u:=vW s.heap a (Obj.putSet M t2);split
 .have hp:=relayAll_perm t2 M (SetTable.grown M.size);have v:=relayAll_fits t2 M (SetTable.grown M.size);have x:=EA t2 M (SetTable.grown M.size);have y:=wN t2 M (SetTable.grown M.size) hpl;generalize C:relayAll t2 M _=Rl at hp v x y |-;obtain⟨k,t3,D⟩:=Rl;have F:=q.perm hp;have hsz:k.size=M.size:=by rw[<-vG,hp.length_eq,vG]
  refine wX (z _ _ _ ?_);refine wX (wpAny_storeSet_of j r4 ?_ (fits_of_scanBound (by rw[hsz,d];exact U)));have l:=rE j r4 k t3;exact wY (h _ (u.trans (vW _ a _)) ⟨_,k,_,t3,l,p,r4,F,(hp.map _).trans f,nd,U,v,x.trans r,λZ=>y⟩)
 .exact wY (h _ u ⟨_,M,_,t2,j,p,r4,q,f,nd,U,i,r,λZ=>hpl⟩)
def z4 {a:Addr}{ts:LS}{k:Str}{tk:Tok}{Q:Bool->Shared->Prop}(v:gK prog w s.heap a ts)(J:ts.length+1<scanBound)
  (h:∀b h',Heap.SameBut a s.heap h'->gK prog w h' a (gX ts k)->Q b { s with heap:=h' }):
  wpAny (model prog w) A (setAddHashed a (.str k tk) ((PySem.strKind prog w).hash k)) Q E s:=by
 have hS0:=v;refine cX λW Y=>?_;obtain⟨o,es,P,t,m,B,hd,f,M,nd,hb,hf,C,hpl⟩:=v;apply Y;clear Y;have D:=strKind_is prog w k tk;have sz:es.size=ts.length:=by rw[<-M.length_eq,vI,vG]
 refine wpAny_holding (wX (wpAny_setState_of m hd hf ?_));dsimp only;rw[byScan_of (x:=.str k tk) r4 (by rw[sz];exact hb) f];simp only[↓reduceIte];unfold setAddByScan;refine wX ?_;refine wX (wpAny_rule ?_);refine wX (wpAny_setScan_of D m hd hf f ?_);cases K:List.findIdx? _ es.toList with
 |some j=>
  dsimp only;obtain⟨hj,p,_⟩:=List.findIdx?_eq_some_iff_getElem.mp K;have hm:k∈ts:=(rC f M k).mpr ⟨es.toList[j],List.getElem_mem hj,p⟩;refine wY (wY ?_);simp_all[gX,Heap.SameBut.refl]
 |none=>
  dsimp only;have hm:k∉ts:=λz=>by
   obtain⟨e,he,hp⟩:=(rC f M k).mp z;grind
  have N:gX ts k=ts++[k]:=by unfold gX;rw[if_neg hm]
  have q:∀(b:Bool){c:Shared}{g:Unit->Shared->Prop},g () c->wpAny (model prog w) A (match b with|true=>rule "set.scan.the-table-gave-way" | false=>pure ()) g E c:=
   λb c g hq=>by cases b<;>first|exact wY hq|exact wpAny_rule hq
  have O:=layNew_perm t es ((PySem.strKind prog w).hash k) (.str k tk);have U:=layNew_fits t es ((PySem.strKind prog w).hash k) (.str k tk);have n:=LB t es ((PySem.strKind prog w).hash k) (.str k tk);generalize R:layNew t es ((PySem.strKind prog w).hash k) (.str k tk)=L at O U n |-;obtain⟨r,t1,S,T⟩:=L;dsimp only at O U n |-;rw[Array.toList_push]at O;have F:=(f.push D r4).perm O;have G:(r.toList.map (λe=>strOf e.2)).Perm (ts++[k]):=(O.map _).trans (by rw[map_append];exact M.append_right _);have i:(ts++[k]).Nodup:=by
   rw[List.nodup_append];refine⟨nd,X9,λx hx y hy=>?_⟩;rw[mem_singleton]at hy;subst hy;exact λz=>hm (z ▸ hx)
  have H:(ts++[k]).length<scanBound:=by rw[vA];exact J
  refine wX (q _ ?_);have I:=λh' d l=>h true h' d (by rw[N];exact l);split
  .refine wX ?_;refine wY ?_;refine wP ?_ m B hd F G i H ?_ ?_ ?_ ?_
   .intro b c g hq;cases b<;>first|exact wY hq|exact wpAny_rule hq
   .exact SetTable.fits_plain_off U
   .exact n.trans C
   .rfl
   .intro h' d l;dsimp only;exact wY (I h' d l)
  .rename_i u;refine wX (wY ?_);simp only[↓reduceIte];refine wP ?_ m B hd F G i H U (n.trans C) (by simpa using u) ?_
   .intro b c g hq;cases b<;>first|exact wY hq|exact wpAny_rule hq
   .intro h' d l;dsimp only;exact wY (I h' d l)
end
def gY (M:LS):LS:=M.foldl gX []
def uw (M:LS):∀ts:LS,(M.foldl gX ts).length<=ts.length+M.length:=by
 induction M with
 |nil=>simp
 |cons x r O=>grind[Hd]
def wQ M:(gY M).length<=M.length:=by simpa [gY]using uw M []
def EB (M)x:gY (M++[x])=gX (gY M) x:=by simp_all[gY]
theorem StrsAre.at {vs:LU}{M:LS}(h:StrsAre vs M):∀(i:Nat)v,vs[i]? = some v->∃x t,v=.str x t/\M[i]? = some x:=by
 induction h with
 |nil=>intro i v h;simp at h
 |cons x t _ O=>intro i v h;cases i with
  |zero=>simp at h;exact⟨x,t,h.symm,r4⟩
  |succ i=>exact O i v h
def gK.at (x:gK prog w h a ts)(k:∀o,h.get? a=some o->h'.get? a=some o):gK prog w h' a ts:=by
 obtain⟨o,es,M,t,O,r,b,c,d,e,f,g⟩:=x;exact⟨o,es,M,t,k o O,r,b,c,d,e,f,g⟩
section
variable {prog:Program}{w:World}{A:Around}{R:Result->Shared->Prop}{I:Addr}{fp wr:List Addr}{G:Array GenState->Array GenState->Prop}{n:Nat}{P:Nat->Value->Prop}{St:Nat->Shared->Prop}
def ux (W:WalksS prog w A.in1 I fp wr G n P St)(S:Addr)(l:S∉fp)(M:LS)(hn:M.length=n)
  (p:∀i v,P i v->∃x t,v=.str x t/\M[i]? = some x) (hb:n+1<scanBound):
  ∀(k i:Nat)(s:Shared),n - i=k->i<=n->St i s->gK prog w s.heap S (gY (M.take i)) ->
   (∀s',Moved (S::wr) G s s'->gK prog w s'.heap S (gY M)->R (.ok (.ret .none)) s') ->
   codeAny (model prog w) A (.builtin "set.update.loop" ⟨[.ref S,.ref I],[]⟩) R s:=by
 have a:S∉wr:=λh=>l (W.sub _ h);have O:∀b∈wr,b∈S::wr:=λb hb=>mZ _ hb;intro k;induction k with
 |zero=>
  intro i s hk hi U j hR;have q:i=n:=N9
  subst q;refine codeAny_builtin PyProof.Rows.F.entry_set_update_loop ?_;refine wX (W.done s _ _ U λs' hm=>?_);refine wY (hR s' (hm.mono O) ?_);rw[List.take_of_length_le N9]at j;exact j.at λo e=>hm.heap S _ a e
 |succ k r=>
  intro i s hk hi U j hR;have m:i<n:=N9
  refine codeAny_builtin PyProof.Rows.F.entry_set_update_loop ?_;refine wX (W.item i s _ _ m U λv s' u c hm=>?_);obtain⟨x,t,rfl,hx⟩:=p i v u;have y:gK prog w s'.heap S (gY (M.take i)):=j.at λo e=>hm.heap S _ a e;refine wX (wpAny_holding ?_);unfold setAdd;refine wpAny_holding ?_;refine wX ((PySem.strKind prog w).pyHash (k:=x) (strKind_is prog w x t) ?_);have hl:(gY (M.take i)).length+1<scanBound:=by have:=wQ (M.take i);rw[length_take]at this;lia
  refine z4 (s:={ s' with toks:=s'.toks+1 }) y hl λb h' d C=>?_;have z:gK prog w h' S (gY (M.take (i+1))):=by
   simp_all[take_add_one,EB]
  refine wY ⟨plainId_quiet PyProof.Rows.F.plain_set_update_loop _,r (i+1) _ N9 m (W.frame _ s' _ _ c (le_succ _) λb hb o e=>?_) z λB f g=>?_⟩
  .rw[d.2 b (λh:b=S=>l (by rw[<-h];exact hb))];exact e
  .refine hR B (Moved.trans W.gtrans ((hm.mono O).then_heap (le_succ _) λb o hb e=>?_) f) g;rw[d.2 b (λh:b=S=>hb (by rw[h];exact mX))];exact e
end
section
variable {prog:Program}{w:World}{A:Around}{E:QV}{s:Shared}
noncomputable abbrev cP (w:World):Obj:={ cls:=.type "set",dict:=none,data:=.set #[] 0 (.fresh 0 0 (!w.params.followText "set-order")) }
def wR (a:Value)
  (h:Q₁ (.ref s.z) { s with heap:=s.heap.push (cP w) }):
  codeAny (model prog w) A (.call (.builtin "set.__new__") ⟨[.type "set",a],[]⟩) (wants Q₁ E) s:=by
 refine codeAny_of_tree ?_;refine wX (wpAny_of_eq (PySem.F.newCall_set_1 a) (wY ⟨plainId_quiet PySem.F.plain_set_new _,codeAny_builtin PySem.F.entry_set_new ?_⟩));have M:=sub_set_self;wp_walk;refine wpAny_askSetting (wY ?_);refine wX (wpAny_alloc (wY ?_));exact wY h
set_option maxHeartbeats 3200000 in
def pr
  (hh:A.handled=none) (hl:s.heap.IsList l items) (hi:StrsAre items.toList ss) (hb:items.size+1<scanBound)
  (h:∀(h':Heap)(tk:Nat),gK prog w h' s.z (gY ss) ->
   (∀b o,b<s.z->s.heap.get? b=some o->h'.get? b=some o)->Q (.ref s.z) { s with heap:=h',toks:=tk }):
  wpAny (model prog w) A (call (.type "set") [.ref l]) Q E s:=by
 obtain⟨c,tl,C⟩:=called_set.mro;have D:=called_set.made;have G:=called_set.sub;refine wpAny_call (codeAny_of_tree ?_);show wpAny _ _ (callAny (.type "set") _) _ _ _;refine wY ⟨Code.quiet_builtin _ O9,codeAny_builtin PySem.F.entry_type_call ?_⟩;rw[Around.under_plain (weight_type_call_type "set" [.ref l] []) r4];have h1:=called_set.notType;have h2:=called_set.canCreate;have H:=PySem.F.typeCall_set_1 (.ref l);have I:ss.length=items.size:=by have:=hi.strs;grind
 repeat (any_goals (first|assumption|wp_step))
 refine codeAny_mono (wR (.ref l) (E:=E) (Q₁:=λobj U=>obj=.ref s.z/\U={ s with heap:=s.heap.push (cP w) }) ⟨r4,r4⟩) λr U g=>?_;cases r with
 |error e=>exact g
 |ok fl=>
  cases fl with
  |ret obj=>
   obtain⟨rfl,rfl⟩:=g;have p:(s.heap.push (cP w)).get? s.z=some (cP w):=vY _ r4;have J:Shared.TypeIs { s with heap:=s.heap.push (cP w) } (.ref s.z) "set":=⟨_,p,r4⟩;have K:=called_set.init.lookup;have XD:=called_set.init.bind (.ref s.z);repeat (any_goals (first|assumption|wp_step))
   refine codeAny_mono (codeAny_call_builtin (R:=wants (λr a=>r=.none/\∃h' tk,a={ s with heap:=h',toks:=tk } /\
     gK prog w h' s.z (gY ss) /\
     (∀b o,b<s.z->s.heap.get? b=some o->h'.get? b=some o)) E) called_set.init.plain PySem.F.entry_set_init (check_set_init_1 J ?_)) λf a M=>?_
   .obtain⟨L,q,u,nl,y⟩:=hl;obtain⟨N,P,S,O⟩:=L;simp only at u y;subst u;subst y;have T:(s.heap.push (cP w)).get? l=some { cls:=.type "list",dict:=P,data:=.seq items nl,slots:=O }:=vZ _ q;have V:=PySem.F.sub_list_set;have W:=PySem.F.sub_list_frozenset;have vF:(Value.type "list" == Value.type "dict")=false:=Z9
    have B:(s.heap.push (cP w)).IsList l items:=⟨_,T,r4,nl,r4⟩;clear h1 h2 H C tl D G XD K;unfold Builtin.«set.__init__» noKeywords Builtin.Frozenset.updateFrom;generalize j:pyIter=PI;wp_walk;subst j;refine wpAny_pyIter_list B ?_;refine wX (wpAny_runValue ?_);have X:l<s.z:=vX q;have k:A.in1.in1.in1.handled=none:=by simp[hh]
    have Y:l≠(s.heap.push (cP w)).objs.size:=by
     simp_all[vS,lt_succ_of_lt]
    have Z:s.z∉[(s.heap.push (cP w)).objs.size,l]:=by
     simp_all[ne_of_gt]
    have RF:∀(i:Nat)(v:Value),items[i]? = some v->∃x t,v=.str x t/\ss[i]? = some x:=λi v hv=>
     StrsAre.at hi i v (by simp_all)
    refine ux ((Walks.list k _ l Y items).toS) s.z
     Z ss I RF hb (items.size - 0) 0 _ N9 (uO _)
     ⟨⟨_,vY _ r4,r4,r4⟩,(B.push _)⟩ ?hS0 ?hR
    case hS0=>
     have ZU:((s.heap.push (cP w)).push { cls:=.type "list_iterator",data:=.fields #[.ref l,.int 0 0] }).get? s.z
       = some (cP w):=vZ _ p
     exact⟨_,#[],0,_,ZU,⟨r4,r4,r4⟩,r4,λe he=>by simp at he,List.Perm.refl _,nodup_nil,(by show(0:Nat)<scanBound;decide),r4,r4,λz=>absurd r4 z⟩
    case hR=>
     intro s' hm m
     obtain⟨h',g',d',Kc,n⟩:=s'
     have eg:g'=s.gens:=hm.gens
     have ed:d'=s.drawn:=hm.drawn
     have eo:n=s.os:=hm.os
     subst eg;subst ed;subst eo
     show wpAny _ _ _ _ _ _
     refine wY ?_
     show wpAny _ _ (ret Value.none) _ _ _
     refine wY ⟨r4,h',Kc,r4,m,λb o hb e=>?_⟩
     have ZQ:b≠s.z:=vS hb
     have hb2:b≠(s.heap.push (cP w)).objs.size:=by
      simp_all[vS,lt_succ_of_lt]
     exact hm.heap b o (by simp_all) (vZ _ (vZ _ e))
   .cases f with
    |error e=>exact M
    |ok d=>
     cases d with
     |ret r=>
      obtain⟨rfl,h',tk,rfl,m,OH⟩:=M;repeat (any_goals (first|assumption|wp_step))
      exact h _ _ m OH
     |_=>exact M.elim
  |_=>exact g.elim
end
open Sem (wp)
section
variable {M:Model}{A:Around}{E:QV}{s:Shared}
def LC (hn:n≠0)(h:∀k d,k<n->Q k { s with drawn:=d }):wpAny M A (choose src n) Q E s:=by
 intro O p U;refine⟨hn,?_⟩;have:=h _ (s.drawn.bump src) (Nat.mod_lt (M.w.draws src (s.drawn.get src)) (Nat.pos_of_ne_zero hn));simp_all
end
def kX {α:Type}:∀(l:List α)(i:Nat),i<l.length->(l.eraseIdx i).length=l.length - 1:=by grind
theorem jN {α:Type}:∀l i(x:α),l[i]? = some x->(x::l.eraseIdx i).Perm l
 |[],i,x,h=>by simp at h
 |a::l,0,x,h=>by simp_all
 |a::l,i+1,x,h=>(List.Perm.swap a x _).trans ((jN l i x h).cons a)
theorem AX {α:Type}:∀n(xs:List α)(s)Q,xs.length=n->(∀ys d,ys.Perm xs->Q ys { s with drawn:=d })->wpAny M A (drawOrder n xs) Q E s
 |0,xs,s,Q,hl,h=>by
  have:=List.eq_nil_of_length_eq_zero hl;subst this;exact wY (h [] _ (List.Perm.refl _))
 |n+1,[],s,Q,hl,h=>by simp at hl
 |n+1,x::r,s,Q,hl,h=>by
  refine wX (LC X9 λk d hk=>?_);obtain⟨y,hy⟩:∃y,(x::r)[k]? = some y:=⟨_,vU hk⟩;rw[hy];refine wX (AX n _ _ _ (by rw[kX _ _ hk,hl];rfl) λys d' hp=>wY (h _ _ ((hp.cons y).trans (jN _ _ _ hy))))
theorem AY {α:Type}next:∀fuel k(left:List α)out,left.length=fuel->(pickOrder.go next fuel k left out).toList.Perm (out.toList++left)
 |0,k,left,out,hl=>by
  simp_all[pickOrder.go]
 |fuel+1,k,left,out,hl=>by
  unfold pickOrder.go;obtain⟨y,hy⟩:∃y,left[next k % left.length]? = some y:=⟨_,vU (Nat.mod_lt _ N9)⟩;rw[hy];refine(AY _ _ _ _ _ (by rw[kX _ _ (Nat.mod_lt _ N9)];lia)).trans ?_;rw[Array.toList_push,append_assoc];exact(jN _ _ _ hy).append_left _
def EC {α:Type}next(xs:Array α):(pickOrder next xs).toList.Perm xs.toList:=by
 grind[AY,pickOrder]
def aR:Slot "set_iterator" "__next__" "set_iterator.__next__" :=
 .of (owner:="set_iterator") (n:="__next__") I9 O9 O9 O9
  (by first|exact .inl O9|exact .inr _) r9
def df:entryFor table "set_iterator.__next__" = some Builtin.«set_iterator.__next__»:=entryFor_of_tree r9
def d9 (a:Value):argsOk "set_iterator.__next__" ⟨[a],[]⟩:=r9
def j6:Slot "set_iterator" "__iter__" "set_iterator.__iter__" :=
 .of (owner:="set_iterator") (n:="__iter__") I9 O9 O9 O9
  (by first|exact .inl O9|exact .inr _) r9
def pv:entryFor table "set_iterator.__iter__" = some Builtin.«dict_keyiterator.__iter__» :=
 entryFor_alias (id':="dict_keyiterator.__iter__") r9 r4 O9 r9
def qP (a:Value):argsOk "set_iterator.__iter__" ⟨[a],[]⟩:=r9
def nE:entryFor table "set.__iter__" = some Builtin.«frozenset.__iter__» :=
 entryFor_alias (id':="frozenset.__iter__") r9 r4 O9 r9
noncomputable abbrev jO (M:Value)(i:Nat)(S:Addr)(n O:Nat):Obj:={ cls:=.type "set_iterator",data:=.fields #[M,.int i 0,.ref S,.int n 0,.int O 0] }
section
variable {prog:Program}{w:World}{A:Around}{E:QV}{s:Shared}{it S:Addr}{i ep:Nat}{o:Obj}{es:Array (Int×Value)}{t:SetTable}
def c6 (M:s.heap.get? it=some (jO O i S n ep)):s.TypeIs (.ref it) "set_iterator":=⟨_,M,r4⟩
def uy {k k':Nat}{x:Value}{Q:Option Value->Shared->Prop}(M:s.heap.get? it=some (jO (.int k 0) i S es.size ep))
  (U:s.heap.get? S=some o) (hd:o.data=.set es ep t) (hf:t.fits es.size=true)
  (a:∀(b:Around)(c:QV)(O:Option (Value×Nat)->Shared->Prop),O (some (x,k')) s->wpAny (model prog w) b (setNext S k i ep) O c s)
  (d:∀h',h'.get? it=some (jO (.int k' 0) (i+1) S es.size ep)->Heap.SameBut it s.heap h'->Q (some x) { s with heap:=h' }):
  wpAny (model prog w) A (pyNext (.ref it)) Q E s:=by
 refine wX (wpAny_attempt (wpAny_callSpecial?_slot (c6 M) aR
  (wpAny_call_entry aR (c6 M) df ?_ (d9 _))))
 show wpAny _ _ (fieldsOf _>>=_) _ _ s;refine wX (wpAny_fieldsOf M r4 ?_);refine wX (wpAny_setEntries_of U hd hf ?_);rw[if_neg X9];refine wX (a _ _ _ ?_);refine wX (wpAny_setField_rec M X9 λh1 e b1=>?_);refine wX (wpAny_setField_rec e X9 λh2 e2 b2=>?_);exact wY ⟨x,r4,wY (d h2 (by simpa [rawInt,jO]using e2) (b1.trans b2))⟩
def uz {k:Nat}{Q:Option Value->Shared->Prop}(hh:A.handled=none)(M:s.heap.get? it=some (jO (.int k 0) i S es.size ep))
  (U:s.heap.get? S=some o) (hd:o.data=.set es ep t) (hf:t.fits es.size=true)
  (a:∀(b:Around)(c:QV)(O:Option (Value×Nat)->Shared->Prop),O none s->wpAny (model prog w) b (setNext S k i ep) O c s)
  (d:∀h',Heap.ExtBut it s.heap h'->Q none { s with heap:=h' }):
  wpAny (model prog w) A (pyNext (.ref it)) Q E s:=by
 refine wX (wpAny_attempt (wpAny_callSpecial?_slot (c6 M) aR
  (wpAny_call_entry aR (c6 M) df ?_ (d9 _))))
 show wpAny _ _ (fieldsOf _>>=_) _ _ s;refine wX (wpAny_fieldsOf M r4 ?_);refine wX (wpAny_setEntries_of U hd hf ?_);rw[if_neg X9];refine wX (a _ _ _ ?_);refine wX (wpAny_setField_rec M X9 λh1 e b1=>?_);refine wX ?_;refine wX (m:=firstArgMember _ _) (wpAny_of_eq I9 ?_);refine wpAny_newObj_type ?_ Z8;refine wX (wpAny_handled ?_);rw[show A.in1.handled=none from hh];refine wX (wY (wpAny_throw ?_));refine wX (wpAny_isInstance ⟨_,vY _ r4,r4⟩ isSubtype_stop ?_);exact wY (d _ ((b1.extBut.push _).push _))
def qQ {T:Addr}{pl:LN}{p:Nat}{x:Int×Value}{nt:Nat}{Q:Option Value->Shared->Prop}(M:s.heap.get? it=some (jO (.ref T) i S es.size ep))
  (a:s.heap.get? T=some (seqObj "tuple" (pl.map λ(p:Nat)=>Value.int p 0).toArray nt))
  (U:s.heap.get? S=some o) (hd:o.data=.set es ep t) (hf:t.fits es.size=true) (hp:pl[i]? = some p) (hx:es[p]? = some x)
  (b:∀h',h'.get? it=some (jO (.ref T) (i+1) S es.size ep)->Heap.SameBut it s.heap h'->Q (some x.2) { s with heap:=h' }):
  wpAny (model prog w) A (pyNext (.ref it)) Q E s:=by
 refine wX (wpAny_attempt (wpAny_callSpecial?_slot (c6 M) aR
  (wpAny_call_entry aR (c6 M) df ?_ (d9 _))))
 show wpAny _ _ (fieldsOf (.ref it)>>=_) _ _ s;refine wX (wpAny_fieldsOf M r4 ?_);refine wX (wpAny_setEntries_of U hd hf ?_);rw[if_neg X9];refine wX (wpAny_seqItems a r4 ?_);have O:(pl.map λ(p:Nat)=>Value.int p 0).toArray[(i:Int).toNat]? = some (.int p 0):=by simp[hp]
 dsimp only;rw[O];have e2:wpAny (model prog w) A.in1 (setNextDrawn S (p:Int).toNat (ep:Int).toNat) (λy s'=>y=x.2/\s'=s) (λv v=>False) s:=by
  refine wX (wpAny_setState_of U hd hf ?_);simp_all[wY]
 refine wX (wpAny_mono e2 (λy s' hy=>?_) λv v z=>z.elim);obtain⟨rfl,rfl⟩:=hy;refine wX (wpAny_setField_rec M X9 λh1 O b1=>?_);exact wY ⟨_,r4,wY (b h1 (by simpa [rawInt,jO]using O) b1)⟩
def qR {T:Addr}{pl:LN}{nt:Nat}{Q:Option Value->Shared->Prop}(hh:A.handled=none)(M:s.heap.get? it=some (jO (.ref T) i S es.size ep))
  (U:s.heap.get? T=some (seqObj "tuple" (pl.map λ(p:Nat)=>Value.int p 0).toArray nt))
  (a:s.heap.get? S=some o) (hd:o.data=.set es ep t) (hf:t.fits es.size=true) (hp:pl[i]? = none)
  (b:∀h',Heap.ExtBut it s.heap h'->Q none { s with heap:=h' }):
  wpAny (model prog w) A (pyNext (.ref it)) Q E s:=by
 refine wX (wpAny_attempt (wpAny_callSpecial?_slot (c6 M) aR
  (wpAny_call_entry aR (c6 M) df ?_ (d9 _))))
 show wpAny _ _ (fieldsOf _>>=_) _ _ s;refine wX (wpAny_fieldsOf M r4 ?_);refine wX (wpAny_setEntries_of a hd hf ?_);rw[if_neg X9];refine wX (wpAny_seqItems U r4 ?_);have O:(pl.map λ(p:Nat)=>Value.int p 0).toArray[(i:Int).toNat]? = none:=by simpa using hp
 dsimp only;rw[O];refine wX (wpAny_setField_rec M X9 λh0 c d=>?_);refine wX (wpAny_setField_rec c X9 λh1 O b1=>?_);refine wX ?_;refine wX (m:=firstArgMember _ _) (wpAny_of_eq I9 ?_);refine wpAny_newObj_type ?_ Z8;refine wX (wpAny_handled ?_);rw[show A.in1.handled=none from hh];refine wX (wY (wpAny_throw ?_));refine wX (wpAny_isInstance ⟨_,vY _ r4,r4⟩ isSubtype_stop ?_);exact wY (b _ (((d.trans b1).extBut.push _).push _))
def wS (M:s.heap.get? it=some (jO O i S n ep))(h:Q (.ref it) s):wpAny (model prog w) A (pyIter (.ref it)) Q E s:=by
 exact wpAny_pyIter_slot (c6 M) j6 (wpAny_call_entry j6 (c6 M) pv (wY ⟨_,r4,"set_iterator",_,c6 M,aR.lookup,h⟩) (qP _))
end
section
variable {prog:Program}{w:World}{A:Around}{E:QV}{s:Shared}{it S:Addr}{i k ep:Nat}{o:Obj}{es:Array (Int×Value)}{t:SetTable}
def rF (M:s.heap.get? S=some o)(hd:o.data=.set es ep t)(hf:t.fits es.size=true)(hb:w.params.followText "set-order" = true)
  (h:Q (((pickOrder (w.params.setOrder S ep) es)[i]?).map λe=>(e.2,k)) s):wpAny (model prog w) A (setNext S k i ep) Q E s:=by
 refine wX (wpAny_setState_of M hd hf ?_);show wpAny _ _ (if w.params.followText _=true then _ else _) _ _ _;rw[if_pos hb,if_neg X9];refine wX (wX (wpAny_setState_of M hd hf ?_));show wpAny _ _ (if w.params.followText _=true then _ else _) _ _ _;rw[if_pos hb];exact wX (wpAny_askSetting (wY (wY h)))
def pw (M:s.heap.get? S=some o)(hd:o.data=.set es ep t)(hf:t.fits es.size=true)(hb:w.params.followText "set-order" = false)(hl:t.led=true)(hz:es.size<=1)
  (h:Q (match es[SetTable.below t.place k]?,t.place[SetTable.below t.place k]? with
   |some (_,x),some j=>some (x,j+1)
   |_,_=>none) s):wpAny (model prog w) A (setNext S k i ep) Q E s:=by
 refine wX (wpAny_setState_of M hd hf ?_);show wpAny _ _ (if w.params.followText _=true then _ else _) _ _ _;rw[if_neg (by rw[hb];simp)];show wpAny _ _ (if(!t.plain && decide _)=true then _ else _) _ _ _;rw[if_neg (by simp_all)];show wpAny _ _ ((if(!t.led && !es.isEmpty)=true then unsupported _ else pure ())>>=_) _ _ _;rw[hl];exact wY h
def rG (hh:A.handled=none)(hd:o.data=.set es ep t)(hf:t.fits es.size=true)(c:S≠it)(vs:LU)(g:vs.length=es.size)(sl:Nat->Nat)
  (d:∀i x,vs[i]? = some x->∀(O:Around)(U:QV)(s:Shared)(M:Option (Value×Nat)->Shared->Prop),s.heap.get? S=some o->M (some (x,sl (i+1))) s->wpAny (model prog w) O (setNext S (sl i) i ep) M U s)
  (f:∀(O:Around)(U:QV)(s:Shared)M,s.heap.get? S=some o->M none s->wpAny (model prog w) O (setNext S (sl es.size) es.size ep) M U s):
  Walks prog w A it [it,S] [it] es.size (λi v=>vs[i]? = some v) (λi h=>h.get? it=some (jO (.int (sl i) 0) i S es.size ep)/\h.get? S=some o) where
 sub:=λb hb=>by simp at hb;simp[hb]
 frame:=λy y y st hk=>⟨hk it X9 _ st.1,hk S X9 _ st.2⟩
 item:=λi s Q E hi st a=>by
  obtain⟨x,hx⟩:∃x,vs[i]? = some x:=⟨_,vU N9⟩;refine uy st.1 st.2 hd hf (λO U M q=>d i x hx O U s M st.2 q) λh' h1 h2=>?_;exact a x h' _ hx ⟨h1,h2.extBut S _ c st.2⟩ λb u hb e=>h2.extBut b u (λz=>hb (by simp[z])) e
 done:=λs Q E st a=>uz hh st.1 st.2 hd hf (λO U M q=>f O U s M st.2 q) λh' h1=>a h' _ λb u hb e=>h1 b u (λz=>hb (by simp[z])) e
 self:=λy y y y st a=>wS st.1 a
def z5 {T:Addr}{pl:LN}{nt:Nat}(hh:A.handled=none)(hd:o.data=.set es ep t)(hf:t.fits es.size=true)(U:S≠it)(a:T≠it)(hp:pl.Perm (List.range es.size)):
  Walks prog w A it [it,S,T] [it] es.size (λi v=>(pl.map λp=>(es.getD p (0,.none)).2)[i]? = some v)
   (λi h=>h.get? it=some (jO (.ref T) i S es.size ep)/\h.get? S=some o/\h.get? T=some (seqObj "tuple" (pl.map λ(p:Nat)=>Value.int p 0).toArray nt)) where
 sub:=λb hb=>by simp at hb;simp[hb]
 frame:=λy y y st hk=>⟨hk it X9 _ st.1,hk S X9 _ st.2.1,hk T X9 _ st.2.2⟩
 item:=λi s Q E hi st M=>by
  have O:pl.length=es.size:=by rw[hp.length_eq,length_range]
  obtain⟨p,hx⟩:∃p,pl[i]? = some p:=⟨_,vU N9⟩;have c:=mem_range.mp (hp.mem_iff.mp (mem_of_getElem? hx));have he:es[p]? = some (es.getD p (0,.none)):=by simp_all
  refine qQ st.1 st.2.2 st.2.1 hd hf hx he λh' h1 h2=>?_;exact M _ h' s.toks (by simp[hx]) ⟨h1,h2.extBut S _ U st.2.1,h2.extBut T _ a st.2.2⟩ λb u hb e=>h2.extBut b u (λz=>hb (by simp[z])) e
 done:=λs Q E st M=>by
  have O:pl.length=es.size:=by rw[hp.length_eq,length_range]
  exact qR hh st.1 st.2.2 st.2.1 hd hf (getElem?_eq_none N9) λh' h1=>M h' s.toks λb u hb e=>h1 b u (λz=>hb (by simp[z])) e
 self:=λy y y y st M=>wS st.1 M
end
def z6 {α:Type}(es:Array α)(d:α):(List.range es.size).map (λp=>es.getD p d)=es.toList:=by
 apply ext_getElem?;intro i;by_cases h:i<es.size
 .simp_all
 simp_all
section
variable {prog:Program}{w:World}{A:Around}{E:QV}{s:Shared}
def rH (h:xs=#[j]):SetTable.below xs k=if j<k then 1 else 0:=by
 simp_all[SetTable.below,SetTable.below.go]
def He {S:Addr}{ts:LS}{Q:QV}(G:gK prog w s.heap S ts)
  (m:∀(h':Heap)(d:Drawn)(it:Addr)(vs:LU)(fp:List Addr)(St:Nat->Heap->Prop),(∀a,a.handled=none->Walks prog w a it fp [it] ts.length (λi v=>vs[i]? = some v) St)->St 0 h' ->
   (∀b u,s.heap.get? b=some u->h'.get? b=some u)->s.z<=it->(∀b∈fp,b=S\/s.z<=b)->vs.length=ts.length->(vs.map strOf).Perm ts->(∀v∈vs,∃x t,v=.str x t) ->
   Q (.ref it) { s with heap:=h',drawn:=d }):wpAny (model prog w) A (pyIter (.ref S)) Q E s:=by
 refine cX λW Y=>?_;obtain⟨o,es,c,t,U,H,hd,I,hp,nd,hb,hf,J,hpl⟩:=G;apply Y;clear Y;have sz:es.size=ts.length:=by rw[<-hp.length_eq,vI,vG]
 have B:S<s.z:=vX U;have f:s.TypeIs (.ref S) "set":=⟨_,U,H.1⟩;have K:∀e∈es.toList,∃x t,e.2=.str x t:=λe he=>by
  obtain⟨⟨k,hk,Z⟩,Z⟩:=I e he;obtain⟨t,q⟩:=Value.isStrOf_shape (show Value.isStrOf k e.2=true from hk);exact⟨k,t,q⟩
 refine wpAny_pyIter_slot f slot_set_iter (wpAny_call_entry slot_set_iter f nE ?_ (PySem.F.args_set_iter_1 _));show wpAny _ _ (Builtin.Frozenset.sizeOf S>>=_) _ _ s;unfold Builtin.Frozenset.sizeOf;refine wX (wX (wpAny_setEntries_of U hd hf (wY ?_)));unfold setDrawn setsByText;refine wX (wX (wpAny_setState_of U hd hf ?_));dsimp only;refine wX (wX (wpAny_askSetting (wY (wY ?_))));show wpAny _ _ (if(!w.params.followText "set-order" && (!t.plain && decide (es.size > 1)))=true then _ else _) _ _ _;have C:(es.toList.map (·.2)).map strOf=es.toList.map (λe=>strOf e.2):=by rw[map_map];rfl
 by_cases M:w.params.followText "set-order" = true
 .rw[if_neg (by rw[M];simp)];refine wX (wY ?_);refine wX (wpAny_setEpoch_of U hd hf ?_);have pp:=EC (w.params.setOrder S c) es;have D:((pickOrder (w.params.setOrder S c) es).toList.map (·.2)).length=es.size:=by rw[vI,pp.length_eq,vG]
  refine wX (wpAny_newObj_type (wY ⟨_,r4,"set_iterator",_,⟨_,vY _ r4,r4⟩,aR.lookup,?_⟩));refine m _ s.drawn s.z ((pickOrder (w.params.setOrder S c) es).toList.map (·.2)) [s.z,S] (λi h=>h.get? s.z=some (jO (.int ((λZ=>0:Nat->Nat) i:Nat) 0) i S es.size c)/\h.get? S=some o) (λa g=>?_) ?_ (λb u e=>vZ _ e) (vT _) (λb hb=>?_) (D.trans sz) ?_ ?_
  .rw[<-sz];exact rG g hd hf (vS B) _ D (λZ=>0) (λi x hx a n s r h1 h2=>rF h1 hd hf M (by
    rw[vB,Array.getElem?_toList]at hx;obtain⟨e,he,rfl⟩:=oY hx;rw[he];exact h2)) (λa n s r h1 h2=>rF h1 hd hf M (by
    simp_all))
  .exact⟨vY _ r4,vZ _ U⟩
  .grind
  .grind
  grind
 .rw[Bool.not_eq_true]at M;have hl:t.led=true:=by rw[J,M];rfl
  by_cases h1:es.size<=1
  .rw[if_neg (by simp_all)];refine wX (wY ?_);refine wX (wpAny_setEpoch_of U hd hf ?_);refine wX (wpAny_newObj_type (wY ⟨_,r4,"set_iterator",_,⟨_,vY _ r4,r4⟩,aR.lookup,?_⟩));have L:t.place.size=es.size:=by
    simp_all[SetTable.fits]
   refine m _ s.drawn s.z (es.toList.map (·.2)) [s.z,S] (λi h=>h.get? s.z=some (jO (.int ((λi=>if i=0 then 0 else t.place.getD 0 0+1:Nat->Nat) i:Nat) 0) i S es.size c)/\h.get? S=some o) (λa g=>?_) ?_ (λb u e=>vZ _ e) (vT _) (λb hb=>?_) (by simp_all) (by rw[C];exact hp) ?_
   .rw[<-sz];refine rG g hd hf (vS B) _ X9 (λi=>if i=0 then 0 else t.place.getD 0 0+1) (λi x hx a n s r y q2=>pw y hd hf M hl h1 ?_) (λa n s r y q2=>pw y hd hf M hl h1 ?_)
    .have hi:i<es.size:=by have:=(vV hx).1;simpa using this
     have N:i=0:=N9
     subst N;obtain⟨j,hj⟩:∃j,t.place=#[j]:=Array.size_eq_one_iff.mp N9;rw[if_pos r4,rH hj,if_neg N9];rw[vB,Array.getElem?_toList]at hx;obtain⟨e,he,rfl⟩:=oY hx;rw[he];simp only[hj]at q2 |-;simpa using q2
    .by_cases h0:es.size=0
     .have l:t.place=#[]:=Array.eq_empty_of_size_eq_zero N9;have z:es=#[]:=Array.eq_empty_of_size_eq_zero h0;rw[l,z];simpa using q2
     .obtain⟨j,hj⟩:∃j,t.place=#[j]:=Array.size_eq_one_iff.mp N9;rw[if_neg h0,rH hj];have:t.place.getD 0 0=j:=by rw[hj];rfl
      rw[this,if_pos N9,Array.getElem?_eq_none N9];exact q2
   .exact⟨vY _ r4,vZ _ U⟩
   .grind
   grind
  .have l:t.plain=false:=hpl N9;rw[if_pos (by simp_all)];refine wX (AX es.size (List.range es.size) _ _ X9 λpl d pp=>?_);refine wX (wpAny_newTuple ?_ (by rw[vI,pp.length_eq,length_range,sz];exact fits_of_scanBound hb));refine wX (wpAny_setEpoch_of (vZ _ U) hd hf ?_);refine wX (wpAny_newObj_type (wY ⟨_,r4,"set_iterator",_,⟨_,vY _ r4,r4⟩,aR.lookup,?_⟩));have hsz:(s.heap.push (seqObj "tuple" (pl.map λ(p:Nat)=>Value.int p 0).toArray 0)).objs.size=s.z+1:=size_push' _ _;have O:((pl.map λp=>(es.getD p (0,.none)).2)).Perm (es.toList.map (·.2)):=by
    have:=(pp.map λp=>es.getD p (0,Value.none)).map (·.2);rw[z6]at this;rw[map_map]at this;exact this
   refine m _ d _ (pl.map λp=>(es.getD p (0,.none)).2) [(s.heap.push (seqObj "tuple" (pl.map λ(p:Nat)=>Value.int p 0).toArray 0)).objs.size,S,s.z] (λi h=>h.get? (s.heap.push (seqObj "tuple" (pl.map λ(p:Nat)=>Value.int p 0).toArray 0)).objs.size=some (jO (.ref s.z) i S es.size c)/\h.get? S=some o/\h.get? s.z=some (seqObj "tuple" (pl.map λ(p:Nat)=>Value.int p 0).toArray 0)) (λa g=>?_) ?_ (λb u e=>vZ _ (vZ _ e)) ?_ (λb hb=>?_) ?_ ?_ ?_
   .rw[<-sz];exact z5 (nt:=0) g hd hf (by simp_all[vS,lt_succ_of_lt]) X9 pp
   .exact⟨vY _ r4,vZ _ (vZ _ U),vZ _ (vY _ r4)⟩
   .simp
   .grind
   .rw[O.length_eq,vI,vG,sz]
   .exact((O.map strOf).trans (by rw[C])).trans hp
   .intro v P;obtain⟨e,he,rfl⟩:=mem_map.mp (O.mem_iff.mp P);exact K e he
end
def ED (h:ItemsOf (λi v=>vs[i]? = some v) M vs.length):M.toList=vs:=by
 apply ext_getElem?;intro i;by_cases hi:i<M.size
 .have e:=Array.getElem?_eq_getElem hi;rw[Array.getElem?_toList,e,h.2 i _ e]
 .rw[getElem?_eq_none (by rw[vG];lia),getElem?_eq_none (by rw[<-h.1];lia)]
section
variable {prog:Program}{w:World}{A:Around}{E:QV}{s:Shared}
def wT (hh:A.handled=none)(g:gK prog w s.heap S ts)
  (y:∀s' vs,(∀b u,s.heap.get? b=some u->s'.heap.get? b=some u)->s'.gens=s.gens->s'.os=s.os->vs.length=ts.length->(vs.map strOf).Perm ts->(∀v∈vs,∃x t,v=.str x t)->Q vs s'):
  wpAny (model prog w) A (collect (.ref S)) Q E s:=by
 have M:∀(s1:Shared),gK prog w s1.heap S ts->s1.TypeIs (.ref S) "set":=λs1 h=>by
  refine cX λY Z=>?_;obtain⟨o,X,X,X,i,B,X⟩:=h;apply Z;clear Z;exact⟨o,i,B.1⟩
 have C:S<s.z:=by obtain⟨o,X,X,X,i,X⟩:=g;exact vX i
 have U:ts.length<scanBound:=by obtain⟨X,X,X,X,X,X,X,X,X,X,h,X⟩:=g;exact h
 unfold collect;refine wX (wpAny_runValue (codeAny_builtin PySem.F.entry_proto_collect ?_));refine wX (wpAny_newObj_type ?_);refine wY ⟨plainId_quiet PySem.F.plain_list_iadd _,codeAny_builtin PySem.F.entry_list_iadd ?_⟩;show wpAny _ A.in1 (Builtin.List.listExtendWith (.ref s.z) (.ref S) (.ref s.z)) _ _ _;unfold Builtin.List.listExtendWith;have j:gK prog w (s.heap.push { cls:=.type "list",data:=.seq ([]:LU).toArray }) S ts:=g.at λo e=>vZ _ e;refine wX (wpAny_typeOf (M _ j) ?_);have D:s.z≠S:=ne_of_gt C;have h1:Builtin.List.listSameRef (.ref s.z) (.ref S)=false:=by simp[Builtin.List.listSameRef,D]
 have h2:(Value.type "set" == Value.type "list")=false:=Z9
 have h3:(Value.type "set" == Value.type "tuple")=false:=Z9
 simp only[h1,h2,h3,Bool.or_false,uW,if_false];refine wX (He j λh' d it vs fp St W G hk Kd H n a I=>?_);have k:gK prog w h' S ts:=j.at λo e=>hk _ _ e;refine wX (wpAny_holding ?_);unfold Builtin.List.listLengthHint;refine wX (wpAny_specialOf (M _ k) PySem.F.slot_set_len.lookup ?_);wp_delta;refine wX (wpAny_isInstance (M _ k) sub_set_self ?_);refine wX (wpAny_typeOf (M _ k) ?_);refine wY ?_;rw[if_pos Z9];refine wX (wpAny_rule ?_);refine wX ?_;have J:(s.heap.push { cls:=.type "list",data:=.seq ([]:LU).toArray }).objs.size=s.z+1:=size_push' _ _;have c:=hk _ _ (vY _ r4);refine wX (wpAny_updateSeq c r4 ?_);have f:=Heap.get?_update_self (Obj.mapSeq (·.push Value.none)) c r4;refine wpAny_updateSeq f r4 ?_;have l:=Heap.get?_update_self (Obj.mapSeq (·.pop)) f r4;have p:s.z∉fp:=λhm=>by
  grind
 have q:∀b u,b≠s.z->h'.get? b=some u ->
   ((h'.update s.z (Obj.mapSeq (·.push Value.none))).update s.z (Obj.mapSeq (·.pop))).get? b=some u:=
  λb u hb e=>(Heap.get?_update_other _ _ (Ne.symm hb)).trans ((Heap.get?_update_other _ _ (Ne.symm hb)).trans e)
 have r:=W A.in1 hh;refine wY ⟨plainId_quiet plain_extend_loop _,codeAny_extend_loopS r.toS (fits_of_scanBound U) _ p _ ts.length 0 _ _ _ r4 (uO _)
  (r.frame 0 _ _ G λb hb u e=>q b u (λz=>p (z ▸ hb)) e) l (ItemsOf.nil _) λs' K L hm m O=>?_⟩
 refine wX (wpAny_load m ?_);rw[<-n]at O;refine wY ?_;show Q K.toList s';rw[ED O];refine y s' vs (λb u e=>hm.heap b u (λhb=>?_) (q b u (vS (vX e)) (hk _ _ (vZ _ e)))) hm.gens hm.os n a I;have hl:=vX e;simp_all<;>lia
def z7 (hh:A.handled=none)(i:gK prog w s.heap S ts)(j:ts.length<64)
  (k:∀(s1:Shared)(h':Heap)(a:Addr)(out:AV)(n:Nat)(M:LS),(∀b u,s.heap.get? b=some u->s1.heap.get? b=some u)->s1.os=s.os->s1.gens=s.gens->(∀b u,s1.heap.get? b=some u->h'.get? b=some u)->s1.z<=a->h'.get? a=some (seqObj "list" out n) ->
   StrsAre out.toList M->M.Perm ts->sortedS M=true->Q (.ref a) { s1 with heap:=h' }):
  wpAny (model prog w) A (call (.builtin "sorted") [.ref S]) Q E s:=by
 refine Calls.call_function_entry kind_sorted plain_sorted entry_sorted (args_sorted1 _) ?_;refine wX (wY ?_);refine wX (wT (by exact hh) i λs1 vs hk l c f O m=>?_);have U:=strsAre_map vs m;refine wX (wpAny_newList ?_ (by rw[f,sizeLine_eq];lia));have d:(s1.heap.push _).get? _=some (seqObj "list" vs.toArray 0):=vY _ r4;refine wX (wpAny_holding (wpAny_call_entry slot_list_sort ⟨_,d,r4⟩ entry_list_sort (list_sort_treeK strKind_oneLt d U.keysOf (λg h bu e=>keyKind_strs (by rw[<-e];exact U)) (by rw[f];exact j) λp a1 a2=>⟨_,r4,?_⟩) (args_list_sort _)));obtain⟨M,b1,b2,o⟩:=sorted_out_str U a1 a2;obtain⟨e,he⟩:=sortedHeap_at d;refine wY ⟨_,r4,k s1 _ _ _ e M hk c l (λb u q=>?_) (vT _) he b1 (b2.trans O) o⟩;have hl:=vX q;rw[sortedHeap_old (vS hl) (by simp_all[lt_succ_of_lt])];exact vZ _ q
end
end DL
namespace DL
open PySem PySem.Spec PyProof.Rows L2
def wU (a b:Str):Prop:=¬b.cps.toList<a.cps.toList
def AZ:ltCps b.cps.toList a.cps.toList=false↔wU a b:=by rw[ltCps_eq,decide_eq_false_iff_not];rfl
def rJ (h:wU a b)(k:wU b c):wU a c:=by
 grind[wU]
def Hf (h:wU a b)(k:wU b a):a=b:=by
 have e:=List.le_antisymm (not_lt.mp h) (not_lt.mp k);obtain⟨a⟩:=a;simp_all
noncomputable def z8 (x:Str):LS->LS
 |[]=>[x]
 |y::r=>if ltCps y.cps.toList x.cps.toList then y::z8 x r else x::y::r
def rK (l:LS):LS:=l.foldr z8 []
theorem lX x:∀l,(z8 x l).Perm (x::l)
 |[]=>List.Perm.refl _
 |y::r=>by
  unfold z8;split
  .exact((lX x r).cons y).trans (List.Perm.swap x y r)
  rfl
theorem jP:∀l,(rK l).Perm l
 |[]=>List.Perm.refl _
 |x::l=>(lX x _).trans ((jP l).cons x)
theorem rL x:∀l,l.Pairwise wU->(z8 x l).Pairwise wU
 |[],_=>by simp[z8]
 |y::r,h=>by
  obtain⟨h1,h2⟩:=pairwise_cons.mp h;unfold z8;split
  .rename_i hl;refine pairwise_cons.mpr ⟨λz hz=>?_,rL x r h2⟩;rcases vP ((lX x r).mem_iff.mp hz)with rfl|hz
   .rw[ltCps_eq,decide_eq_true_eq]at hl;exact λk=>lt_irrefl _ (lt_trans hl k)
   simp_all
  .rename_i hl;rw[Bool.not_eq_true]at hl;have M:=AZ.mp hl;refine pairwise_cons.mpr ⟨λz hz=>?_,h⟩;rcases vP hz with rfl|hz
   .exact M
   .exact rJ M (h1 z hz)
theorem px:∀l,(rK l).Pairwise wU
 |[]=>List.Pairwise.nil
 |x::l=>rL x _ (px l)
theorem mG:∀(l)p,risingS p l=true->(p::l).Pairwise wU
 |[],p,_=>List.pairwise_singleton _ _
 |x::r,p,h=>by
  have h':(!ltCps _ _ && risingS x r)=true:=h;rw[vD]at h';have M:=AZ.mp (by simpa using h'.1);have O:=mG r x h'.2;refine pairwise_cons.mpr ⟨λz hz=>?_,O⟩;rcases vP hz with rfl|hz
  .exact M
  .exact rJ M ((pairwise_cons.mp O).1 z hz)
theorem wV:∀l,sortedS l=true->l.Pairwise wU
 |[],_=>List.Pairwise.nil
 |x::r,h=>mG r x h
def wW a:wU a a:=lt_irrefl _
theorem pz:∀(l1 l2:LS),l1.Perm l2->l1.Pairwise wU->l2.Pairwise wU->l1=l2
 |[],l2,p,_,_=>(nil_perm.mp p).symm
 |x::U,[],p,_,_=>absurd p.length_eq X9
 |x::U,y::a,p,h1,h2=>by
  have O:wU y x:=by
   rcases vP (p.mem_iff.mp (mX ..))with z|z
   .rw[z];exact wW _
   simp_all
  have e:=Hf (by
   rcases vP (p.mem_iff.mpr (mX ..))with z|z
   .rw[z];exact wW _
   simp_all) O;subst e;rw[pz U a (List.Perm.cons_inv p) (pairwise_cons.mp h1).2 (pairwise_cons.mp h2).2]
def EF (p:l'.Perm l)(h:sortedS l'=true):l'=rK l:=pz _ _ (p.trans (jP l).symm) (wV _ h) (px l)
section
variable {X:Cx}
noncomputable def wZ (X:Cx)(S:Addr)(ts:LS):HO:=.ext λh=>gK X.prog X.w h S ts
def lY (I:Inv X aa σ H s)(k:∀b u,s.heap.get? b=some u->s1.heap.get? b=some u)(M:s1.os=s.os)(U:s1.gens=s.gens):Inv X aa σ H s1:=by
 have a:=I.step (d':=s1.drawn) (t':=s1.toks) (ch:=[]) (λy z=>nomatch z) (λb o y y y e y=>k b o e) (λb o y y y e y=>⟨o.slots,k b o e⟩) (λy y y y n=>n)
  (λb o y e=>⟨o,k b o e⟩) (λy y e=>e) (λy y y e=>e) (λy y e=>e) (λm hm=>?_) (I.hok.kept k) I.bare
 .obtain⟨h1,g1,c,t1,o1⟩:=s1;simp_all
 .obtain⟨o,es,O,M,r⟩:=hm;exact⟨o,es,O,k _ o M,r⟩
def mH (hc:X.calm=true):aY X (.type "set") (λxs H Q=>∃p ys M,xs=[.ref p]/\dj X.K H p ys/\(∀its,aD ys its->StrsAre its M)/\M.length<4000/\∀S,H S=none->Q (.ref S) (upd H S (wZ X S (gY M)))):=by
 intro aa s σ H xs us Q I r h;obtain⟨p,ys,M,rfl,hq,hs,g,q⟩:=h;obtain⟨u,rfl,c⟩:=cZ r;cases c
 refine I.lisE hq λits d pl hz=>?_;have U:its.length=M.length:=by rw[<-(hs _ d).strs,vI]
 refine pr (I.ok.hd hc) pl.isList (by simpa using hs _ d) (by simp ;unfold scanBound;lia) λh' tk a hk=>⟨.ref _,_,I.laid (λb u e=>hk b u (vX e) e) (vT _) ?_,r4,q _ (I.hok.fresh (vT _))⟩;refine⟨a,?_,λh1 h2 z=>z.at⟩;obtain⟨o,y,y,y,f,y⟩:=a;exact⟨o,f⟩
def nF (hc:X.calm=true):aY X (.builtin "sorted") (λxs H Q=>∃S ts,xs=[.ref S]/\H S=some (wZ X S ts)/\ts.length<64/\∀l,H l=none->Q (.ref l) (upd H l (.lst ((rK ts).map .str)))):=by
 intro aa s σ H xs us Q I r h;obtain⟨S,ts,rfl,d,O,q⟩:=h;obtain⟨u,rfl,f⟩:=cZ r;cases f
 refine z7 (I.ok.hd hc) (I.hok S _ d).1 O λs1 h' a out n i k1 j k k2 hp he U M b=>?_;have e:=EF M b;subst e;have c:=lY I k1 j k;have m:∀ {its:List _}{zs:List _},StrsAre its zs->aD (zs.map V.str) its:=λz=>by
  induction z with
  |nil=>exact .nil
  |cons x t _ o=>exact .cons ⟨t,r4⟩ o
 refine⟨.ref a,_,c.laid k2 hp (show aE _ _ _ h' _ (.lst _)from ⟨?_,out.toList,n,m U,he⟩),r4,q _ (c.hok.fresh hp)⟩;rw[vI,(jP ts).length_eq,sizeLine_eq];lia
end
@[simp] def xf:D->OB
 |.lst ds=>(gV ds).bind λM=>if M.length<64 then some (.lst ((rK (gY M)).map .str),true)else none
 |_=>none
@[simp] def LF:D->OB
 |.lst ds=>(gV ds).bind λM=>if M.length<4000 then some (.int ((gY M).length:Nat),false)else none
 |_=>none
def xg:bootBuiltins "sorted" = some (.builtin "sorted"):=O9
def NR:bootBuiltins "set" = some (.type "set"):=O9
theorem gn {K:Frag}:∀(zs:LS),IsL K N (zs.map V.str) (zs.map D.str)
 |[]=>.nil
 |z::zs=>.cons (.str z) (gn zs)
section
variable {X:Cx}{e:Expr}{pos pos2 p p2:Pos}
set_option tactic.hygienic true in
def z9 (hc:X.calm=true)(m1:X.mg "sorted" = none)(m2:X.mg "set" = none)(he:JE X e f)(g1:Gl X "sorted")(g:Gl X "set")
  (h1:bE e [] X.env):JE X (.Call (.Name "sorted" p) [.Call (.Name "set" p2) [e] [] pos2] [] pos) (f1 xf f):=by
 refine PE.to (hV (nF hc) g1 m1 xg (av (lN (mH hc) g m2 NR (av he aN h1) (he:=h1)) aN)) λσ H Q q=>?_;refine cX λG K=>?_;obtain⟨B,ρ,d',t,i,r,M,q⟩:=q;refine eX M λb ex M=>?_;apply K;clear K;refine⟨B,ρ,b.1,b.2,i,r,ex,λv u N1 U i1 fr=>?_⟩;obtain⟨xd,w⟩:=b;cases i1<;>try (simp[xf]at M;done)
 rename_i x vs ds h hl;refine eX M λa j M=>?_;split at M
 .rename_i k;cases M
  refine⟨_,_,a,r4,U.nh.seq h,λits m=>gl m hl j,N9,λS n=>⟨S,_,r4,ae,lt_of_le_of_lt (wQ a) k,λl O=>?_⟩⟩;have c:=Ext.laid (o:=wZ X S (gY a)) U.nh n;have s:=Ext.laid (o:=.lst ((rK (gY a)).map V.str)) c.nh O;have d:H l=none:=((U.trans c).hh).free O;exact q _ _ _ ((U.trans c).trans s) (.lst (dj.of ae) (gn _)) λ_=>⟨_,_,_,r4,r4,d,ae,gn _⟩
 simp_all
end
end DL
namespace DL
open PySem PySem.Spec PySem.W PyProof.Rows
inductive Run (n:Nat)(lt:Nat->Nat->Bool){α:Type}:KasT α->α->Prop where
 |ret (a:α):Run n lt (.ret a) a
 |ask {i j:Nat}{k:Bool->KasT α}{a:α}(hi:i<n) (hj:j<n) (h:Run n lt (k (lt i j)) a):Run n lt (.ask i j k) a
def Run.bind{lt:Nat->Nat->Bool}{α M:Type}{t:KasT α}{f:α->KasT M}{a:α}{b:M}(h:Run n lt t a)(k:Run n lt (f a) b):Run n lt (t.bind f) b:=by
 induction h with
 |ret a=>exact k
 |ask hi hj _ O=>exact .ask hi hj (O k)
def Run.wp{lt:Nat->Nat->Bool}{α:Type}{M:Nat->Nat->(Bool->Shared->Prop)->Shared->Prop}{Q:α->Shared->Prop}{t:KasT α}{a:α}(J:Shared->Prop)
  (hc:∀i j C s,i<n->j<n->J s->(∀s',J s'->C (lt i j) s')->M i j C s) (h:Run n lt t a):∀ {s:Shared},J s->(∀s',J s'->Q a s')->t.kasWp M Q s:=by
 induction h with
 |ret a=>intro s O U;exact U s O
 |ask hi hj _ c=>intro s O U;exact hc _ _ _ _ hi hj O λs' b=>c b U
section
variable {n:Nat}{rk:Nat->Int}
noncomputable abbrev p0 (rk:Nat->Int)(i j:Nat):Bool:=decide (rk i<rk j)
noncomputable def bA (rk:Nat->Int)(p:Array Nat)(k:Nat):Int:=rk (p.getD k 0)
structure nK (n:Nat)(p:Array Nat):Prop where
 size:p.size=n
 perm:p.toList.Perm (List.range n)
def nK.lt(h:nK n p)(hk:k<n):p.getD k 0<n:=by
 have M:k<p.size:=by rw[h.size];exact hk
 have:p.getD k 0=p[k]:=by simp_all
 rw[this];exact mem_range.mp (h.perm.mem_iff.mp X9)
def nK.rev(h:nK n p)i j:nK n (kas_rev p i j):=
 ⟨(mirror_size _ _ _ _).trans h.size,(Array.perm_iff_toList_perm.mp (mirror_perm p i j _)).trans h.perm⟩
def nK.bub(h:nK n p)k d:nK n (bubble p k d):=
 ⟨(bubble_size _ _ _).trans h.size,(Array.perm_iff_toList_perm.mp (bubble_perm p k d)).trans h.perm⟩
def u0(hj:j<=p.size)k:bA rk (kas_rev p i j) k=if i<=k/\k<j then bA rk p (i+j - 1 - k)else bA rk p k:=by
 unfold bA kas_rev;rw[Array.getD_eq_getD_getElem?,getElem?_mirror_all hj];split<;>simp_all
def Hg(hs:M<p.size)(hd:d<=M)k:bA rk (bubble p M d) k=if k=M - d then bA rk p M else if M - d<k/\k<=M then bA rk p (k - 1)else bA rk p k:=by
 unfold bA;simp ;rw[getElem?_bubble hs d hd];repeat' split
 all_goals rfl
def Up (rk:Nat->Int)(p:Array Nat)(m:Nat):Prop:=∀i j,i<=j->j<m->bA rk p i<=bA rk p j
def u5 (rk:Nat->Int)(p:Array Nat)(m:Nat):Prop:=∀i j,i<=j->j<m->bA rk p j<=bA rk p i
def Qh p:Up rk p 1:=λi j h1 h2=>by
 simp_all
theorem u6 {p:Array Nat}(h:nK n p){r:Nat}(a:r<=n):∀(f m:Nat),r - m=f->1<=m->m<=r->Up rk p m->∃M,Run n (p0 rk) (kas_asc p f m) M/\m<=M/\M<=r/\Up rk p M/\(M<r->bA rk p M<bA rk p (M - 1))
 |0,m,hf,h1,hm,hu=>⟨m,.ret m,vT _,hm,hu,λz=>by lia⟩
 |f+1,m,hf,h1,hm,hu=>by
  have a1:=h.lt (k:=m) N9;have a2:=h.lt (k:=m - 1) N9;by_cases hc:bA rk p m<bA rk p (m - 1)
  .refine⟨m,.ask a1 a2 ?_,vT _,hm,hu,λy=>hc⟩;have:p0 rk _ _=true:=kh hc;rw[this];exact .ret m
  .have O:Up rk p (m+1):=λi j U hj=>by
    by_cases e:j=m
    .subst e;by_cases e2:i=j
     .subst e2;exact Int.le_refl _
     .have:=hu i (j - 1) N9 N9;lia
    .exact hu i j U N9
   obtain⟨M,b,q2,c,d,g⟩:=u6 h a f _ N9 N9 N9 O;refine⟨M,.ask a1 a2 ?_,N9,c,d,g⟩;have:p0 rk _ _=false:=mv hc;rw[this];exact b
def LG (rk:Nat->Int)(p:Array Nat)(m q:Nat):Prop:=q+1<=m/\∀k,m - (q+1)<=k->k<m->bA rk p k=bA rk p (m - 1)
def xh(hs:m<=p.size)(hf:LG rk p m q)k:bA rk (kas_rev p (m - (q+1)) m) k=bA rk p k:=by
 rw[u0 hs];split
 .rename_i hk;rw[hf.2 k hk.1 hk.2,hf.2 _ N9 N9]
 .rfl
def Ba(e:∀k,bA rk M k=bA rk p k)(h:u5 rk p m):u5 rk M m:=λi j h1 h2=>by rw[e,e];exact h i j h1 h2
def p5 p(h:1<=m):LG rk p m 0:=⟨h,λk h1 h2=>by
 grind⟩
theorem kY {r:Nat}(o:r<=n):∀(f:Nat)(p:Array Nat)(m q:Nat),nK n p->r - m=f->1<=m->m<=r->u5 rk p m->LG rk p m q->∃M O a,Run n (p0 rk) (kas_desc f p m q) (M,O,a)/\nK n M/\m<=O/\O<=r/\u5 rk M O/\LG rk M O a
 |0,p,m,q,h,hf,h1,hm,hd,hq=>⟨p,m,q,.ret _,h,vT _,hm,hd,hq⟩
 |f+1,p,m,q,h,hf,h1,hm,hd,hq=>by
  have a1:=h.lt (k:=m) N9;have a2:=h.lt (k:=m - 1) N9;have step:∀M:Array Nat,(∀k,bA rk M k=bA rk p k)->bA rk p m<=bA rk p (m - 1)->u5 rk M (m+1):=λM e x i j s hj=>by
   rw[e,e];by_cases z:j=m
   .subst z;by_cases w:i=j
    .subst w;exact Int.le_refl _
    .have:=hd i (j - 1) N9 N9;lia
   .exact hd i j s N9
  by_cases hc:bA rk p m<bA rk p (m - 1)
  .have U:p0 rk (p.getD m 0) (p.getD (m - 1) 0)=true:=kh hc;by_cases b:q > 0
   .have e:=xh (p:=p) (by rw[h.size];lia) hq;refine cX λG K=>?_;obtain⟨M,O,a,g1,c,u,d,g,l⟩:=kY o f (kas_rev p (m - (q+1)) m) (m+1) 0 (h.rev _ _) N9 N9 N9 (step _ e N9) (p5 _ N9);apply K;refine⟨M,O,a,.ask a1 a2 ?_,c,N9,d,g,l⟩;rw[U,if_pos r4,if_pos b];exact g1
   .refine cX λG K=>?_;obtain⟨M,O,a,g1,c,u,d,g,l⟩:=kY o f p (m+1) 0 h N9 N9 N9 (step _ (λy=>r4) N9) (p5 _ N9);apply K;refine⟨M,O,a,.ask a1 a2 ?_,c,N9,d,g,l⟩;rw[U,if_pos r4,if_neg b];exact g1
  .have U:p0 rk (p.getD m 0) (p.getD (m - 1) 0)=false:=mv hc;by_cases v:bA rk p (m - 1)<bA rk p m
   .have t:p0 rk (p.getD (m - 1) 0) (p.getD m 0)=true:=kh v;refine⟨p,m,q,.ask a1 a2 ?_,h,vT _,hm,hd,hq⟩;rw[U,if_neg uY];refine .ask a2 a1 ?_;rw[t,if_pos r4];exact .ret _
   .have t:p0 rk (p.getD (m - 1) 0) (p.getD m 0)=false:=mv v;have he:bA rk p m=bA rk p (m - 1):=N9
    obtain⟨M,O,a,g1,c,u,d,g,l⟩:=kY o f p (m+1) (q+1) h N9 N9 N9 (step _ (λy=>r4) N9) ⟨by have:=hq.1;lia,λk k1 k2=>by
     rw[Nat.add_sub_cancel];by_cases z:k=m
     .rw[z]
     .rw[hq.2 k N9 N9,he]⟩
    refine⟨M,O,a,.ask a1 a2 ?_,c,N9,d,g,l⟩;rw[U,if_neg uY];refine .ask a2 a1 ?_;rw[t,if_neg uY];exact g1
def xi {r:Nat}(U:r<=n)(h:nK n p){m:Nat}(h1:1<=m)(hm:m<=r)(hd:u5 rk p m):∃M O,Run n (p0 rk) (kas_tail3 m r p) (M,O)/\nK n O/\1<=M/\M<=r/\Up rk O M:=by
 obtain⟨M,b,q2,c,d,z⟩:=u6 (h.rev 0 m) U _ m r4 h1 hm (λi j a hj=>by
  rw[u0 (by rw[h.size];lia),u0 (by rw[h.size];lia),if_pos N9,if_pos N9];exact hd _ _ N9 N9);exact⟨M,_,b.bind (.ret _),h.rev 0 m,N9,c,d⟩
def xj(U:r<=n)(h:nK n p)(hm:m+1<=r)(hd:u5 rk p (m+1)):∃M O,Run n (p0 rk) (kas_descPart m r p) (M,O)/\nK n O/\1<=M/\M<=r/\Up rk O M:=by
 refine cX λG K=>?_;obtain⟨g,m1,e,g1,a,i,c,d,f⟩:=kY U _ p _ 0 h r4 N9 hm hd (p5 _ N9);apply K;by_cases hq:e > 0
 .refine cX λG K=>?_;obtain⟨M,O,k1,k2,k3,b,k5⟩:=xi U (a.rev _ m1) N9 c (Ba (xh (by rw[a.size];lia) f) d);apply K;clear K;exact⟨M,O,g1.bind (by simp_all),k2,k3,b,k5⟩
 .refine cX λG K=>?_;obtain⟨M,O,k1,k2,k3,b,k5⟩:=xi U a N9 c d;apply K;clear K;exact⟨M,O,g1.bind (by simp_all),k2,k3,b,k5⟩
def EG {p:Array Nat}(h:nK n p)(hn:1<=n):∃M U,Run n (p0 rk) (kas_count n p) (M,U)/\nK n U/\1<=M/\M<=n/\Up rk U M:=by
 obtain⟨m,b,q2,g,c,o⟩:=u6 h (vT n) (n - 1) 1 r4 (vT 1) hn (Qh (rk:=rk) p);by_cases e:m=n
 .exact⟨m,p,b.bind (by rw[if_pos (by simp[e])];exact .ret _),h,q2,g,c⟩
 .have r:=o N9;have l:¬(m == n)=true:=by simp[e]
  by_cases a:m > 1
  .by_cases hc:bA rk p 0<bA rk p (m - 1)
   .refine⟨m,p,b.bind ?_,h,q2,g,c⟩;rw[if_neg l,if_pos a];refine .ask (h.lt N9) (h.lt N9) ?_;have:p0 rk (p.getD 0 0) _=true:=kh hc;rw[this,if_pos r4];exact .ret _
   .have O:∀k,k<m->bA rk p k=bA rk p 0:=λk hk=>by
     have s:=c 0 k N9 hk;have t:=c k (m - 1) N9 N9;simp_all<;>lia
    have er:∀k,bA rk (kas_rev p 0 m) k=bA rk p k:=λk=>by
     rw[u0 (by rw[h.size];lia)];split
     .rename_i z;rw[O _ N9,O k z.2]
     .rfl
    have hd:u5 rk p (m+1):=λi j d hj=>by
     grind
    refine cX λG K=>?_;obtain⟨M,U,k1,k2,k3,f,k5⟩:=xj (vT n) (h.rev 0 m) (m:=m) N9 (Ba er hd);apply K;clear K;refine⟨M,U,b.bind ?_,k2,k3,f,k5⟩;rw[if_neg l,if_pos a];refine .ask (h.lt N9) (h.lt N9) ?_;have:p0 rk (p.getD 0 0) _=false:=mv hc;rw[this];exact k1
  .have q:m=1:=N9
   subst q;have hd:u5 rk p 2:=λi j d hj=>by
    grind
   refine cX λG K=>?_;obtain⟨M,U,k1,k2,k3,f,k5⟩:=xj (vT n) h (m:=1) N9 hd;apply K;clear K;refine⟨M,U,b.bind ?_,k2,k3,f,k5⟩;simp_all
theorem lZ {p:Array Nat}(h:nK n p){k:Nat}(hk:k<n)(hu:Up rk p k):∀(f l r:Nat),r - l<=f->l<=r->r<=k->(∀i,i<l->bA rk p i<=bA rk p k)->(∀i,r<=i->i<k->bA rk p k<bA rk p i) ->
  ∃l',Run n (p0 rk) (kas_place p k f l r) l'/\l'<=k/\(∀i,i<l'->bA rk p i<=bA rk p k)/\(∀i,l'<=i->i<k->bA rk p k<bA rk p i)
 |0,l,r,hf,hl,d,h1,h2=>⟨l,.ret l,N9,h1,λi a b=>h2 i N9 b⟩
 |f+1,l,r,hf,hl,d,h1,h2=>by
  by_cases M:l ≥ r
  .refine⟨l,?_,N9,h1,λi a b=>h2 i N9 b⟩;unfold kas_place;rw[if_pos M];exact .ret l
  .by_cases hc:bA rk p k<bA rk p ((l+r) / 2)
   .obtain⟨l',O,q2,U,c⟩:=lZ h hk hu f l ((l+r) / 2) N9 N9 N9 h1 λi a b=>by
     have:=hu _ i a b;lia
    refine⟨l',?_,q2,U,c⟩;unfold kas_place;rw[if_neg M];refine .ask (h.lt N9) (h.lt N9) ?_;have:p0 rk _ _=true:=kh hc;rw[this];exact O
   .obtain⟨l',O,q2,U,c⟩:=lZ h hk hu f ((l+r) / 2+1) r N9 N9 d (λi a=>by
     have:=hu i ((l+r) / 2) N9 N9;lia) h2
    refine⟨l',?_,q2,U,c⟩;unfold kas_place;rw[if_neg M];refine .ask (h.lt N9) (h.lt N9) ?_;have:p0 rk _ _=false:=mv hc;rw[this];exact O
theorem Bb:∀(f:Nat)(p:Array Nat)(k:Nat),nK n p->n - k=f->k<=n->Up rk p k->∃M,Run n (p0 rk) (kas_bin f p k) M/\nK n M/\Up rk M n
 |0,p,k,h,hf,hk,hu=>⟨p,.ret p,h,(show k=n by lia) ▸ hu⟩
 |f+1,p,k,h,hf,hk,hu=>by
  have O:k<n:=N9
  obtain⟨l,g,q2,m,q⟩:=lZ h O hu k 0 k N9 N9 (vT _) (λi z=>by lia) (λi a b=>by lia);have hsz:k<p.size:=by rw[h.size];exact O
  have U:Up rk (bubble p k (k - l)) (k+1):=λi j c hj=>by
   rw[Hg hsz N9,Hg hsz N9];have e:k - (k - l)=l:=N9
   rw[e];by_cases i1:i=l
   .grind
   .rw[if_neg i1];by_cases i2:l<i/\i<=k
    .rw[if_pos i2,if_neg N9,if_pos N9];exact hu _ _ N9 N9
    .rw[if_neg i2];by_cases d:j=l
     .rw[if_pos d];exact m i N9
     .rw[if_neg d];by_cases o:l<j/\j<=k
      .grind
      .rw[if_neg o];exact hu _ _ c N9
  obtain⟨M,k1,k2,k3⟩:=Bb f _ (k+1) (h.bub _ _) N9 N9 U;exact⟨M,g.bind k1,k2,k3⟩
def Hh (hn:1<=n):∃p,Run n (p0 rk) (kas_sort n) p/\nK n p/\Up rk p n:=by
 have h0:nK n (List.toArray (List.range n)):=⟨X9,X9⟩;obtain⟨m,p,O,q2,b,c,U⟩:=EG h0 hn;by_cases e:m<n
 .have M:max m 1=m:=N9
  obtain⟨a,k1,k2,k3⟩:=Bb _ p (max m 1) q2 r4 N9 (by rw[M];exact U);exact⟨a,O.bind (by simp_all),k2,k3⟩
 .have:m=n:=N9
  subst this;exact⟨p,O.bind (by rw[if_neg e];exact .ret _),q2,U⟩
end
def EH {a b c:LI}(h:a<b)(k:b<c):a<c:=lt_trans h k
def EI {a b c:LI}(h:¬b<a)(k:¬c<b):¬c<a:=by grind
def Hi {a b:LI}(h:¬b<a)(k:¬a<b):a=b:=by grind
section
variable {α:Type}(f:α->LI)
def Kh (a b:α):Prop:=¬f b<f a
noncomputable def zF (x:α):List α->List α
 |[]=>[x]
 |y::r=>if f y<f x then y::zF x r else x::y::r
noncomputable def kZ (l:List α):List α:=l.foldr (zF f) []
theorem ma x:∀l,(zF f x l).Perm (x::l)
 |[]=>List.Perm.refl _
 |y::r=>by
  unfold zF;split
  .exact((ma x r).cons y).trans (List.Perm.swap x y r)
  rfl
theorem gL:∀l,(kZ f l).Perm l
 |[]=>List.Perm.refl _
 |x::l=>(ma f x _).trans ((gL l).cons x)
theorem rM x:∀l,l.Pairwise (Kh f)->(zF f x l).Pairwise (Kh f)
 |[],_=>by simp[zF]
 |y::r,h=>by
  obtain⟨h1,h2⟩:=pairwise_cons.mp h;unfold zF;split
  .rename_i hl;refine pairwise_cons.mpr ⟨λz hz=>?_,rM x r h2⟩;rcases vP ((ma f x r).mem_iff.mp hz)with rfl|hz
   .exact λk=>lt_irrefl _ (EH hl k)
   simp_all
  .rename_i hl;refine pairwise_cons.mpr ⟨λz hz=>?_,h⟩;rcases vP hz with rfl|hz
   .exact hl
   .exact EI hl (h1 z hz)
theorem p6:∀l,(kZ f l).Pairwise (Kh f)
 |[]=>List.Pairwise.nil
 |x::l=>rM f x _ (p6 l)
theorem rN:∀(l1 l2:List α),(∀x∈l1,∀y∈l1,f x=f y->x=y)->l1.Perm l2->l1.Pairwise (Kh f)->l2.Pairwise (Kh f)->l1=l2
 |[],l2,_,p,_,_=>(nil_perm.mp p).symm
 |x::U,[],_,p,_,_=>absurd p.length_eq X9
 |x::U,y::c,hi,p,h1,h2=>by
  have hy:=p.mem_iff.mpr (mX ..);have M:Kh f x y:=by
   rcases vP hy with z|z
   .rw[z];exact lt_irrefl _
   simp_all
  have O:Kh f y x:=by
   rcases vP (p.mem_iff.mp (mX ..))with z|z
   .rw[z];exact lt_irrefl _
   simp_all
  have e:=hi x (mX ..) y hy (Hi M O);subst e;rw[rN U c (λa ha b hb=>hi a (mZ _ ha) b (mZ _ hb)) (List.Perm.cons_inv p) (pairwise_cons.mp h1).2 (pairwise_cons.mp h2).2]
theorem xl (hi:∀x∈l,∀y∈l,f x=f y->x=y)(p:l'.Perm l)(h:l'.Pairwise (Kh f)):l'=kZ f l:=
 rN f _ _ (λx hx y hy=>hi x (p.mem_iff.mp hx) y (p.mem_iff.mp hy)) (p.trans (gL f l).symm) h (p6 f l)
end
theorem jQ {α:Type}{p q:α->Bool}(h:∀x,p x=true->q x=true):∀l:List α,(l.filter p).length<=(l.filter q).length
 |[]=>vT _
 |x::l=>by
  have M:=jQ h l;grind
noncomputable def p7 (cs:List LI)(c:LI):Int:=((cs.filter λx=>decide (x<c)).length:Nat)
def LH{a b:LI}(h:¬b<a):p7 cs a<=p7 cs b:=by
 refine Int.ofNat_le.mpr (jQ (λx hx=>?_) cs);grind
def Bc(ha:a∈cs)(h:a<b):p7 cs a<p7 cs b:=by
 apply Int.ofNat_lt.mpr;induction cs with
 |nil=>simp at ha
 |cons c cs O=>
  have M:∀l:List _,(l.filter λx=>decide (x<a)).length<=(l.filter λx=>decide (x<b)).length:=jQ (λx hx=>by grind)
  grind
def xm (ha:a∈cs):decide (p7 cs a<p7 cs b)=decide (a<b):=by
 by_cases h:a<b
 .simp_all[Bc]
 simp_all[mv,LH]
set_option genInjectivity true in
inductive At where
 |i (n:Int)
 |s (z:Str)
noncomputable def Qi:At->LI
 |.i n=>[n]
 |.s z=>z.cps.toList.map (λ(c:Nat)=>(c:Int)+1)++[0]
def fg (xs:List At):LI:=xs.flatMap Qi
noncomputable def aZ:List At->List At->Option Bool
 |[],ys=>some (!ys.isEmpty)
 |_::_,[]=>some false
 |.i a::xs,.i b::ys=>if a=b then aZ xs ys else some (decide (a<b))
 |.s a::xs,.s b::ys=>if a=b then aZ xs ys else some (decide (a.cps.toList<b.cps.toList))
 |_::_,_::_=>none
theorem u7:∀(a b:LN)(r M:LI),(a.map (λ(c:Nat)=>(c:Int)+1)++0::r)<(b.map (λ(c:Nat)=>(c:Int)+1)++0::M)↔a<b\/(a=b/\r<M)
 |[],[],r,M=>by simp
 |[],y::b,r,M=>by simp[cons_lt_cons_iff]
 |x::a,[],r,M=>by simp[cons_lt_cons_iff];lia
 |x::a,y::b,r,M=>by
  rw[uZ,uZ,cons_append,cons_append,cons_lt_cons_iff,u7 a b r M,cons_lt_cons_iff,Int.add_lt_add_iff_right,Int.ofNat_lt,Int.add_left_inj,Int.ofNat_inj,List.cons.injEq,and_or_left,or_assoc,and_assoc]
def md (x:At)(xs:List At):fg (x::xs)=Qi x++fg xs:=I9
def Qj x:Qi x≠[]:=by cases x<;>simp[Qi]
theorem Bd {a b:Str}:a.cps.toList=b.cps.toList↔a=b:=by
 constructor
 .obtain⟨a⟩:=a;simp_all
 lia
theorem u8:∀(xs ys:List At)(b:Bool),aZ xs ys=some b->b=decide (fg xs<fg ys)
 |[],[],b,h=>by simp_all[aZ]
 |[],y::ys,b,h=>by
  simp[aZ]at h;subst h;rw[md];cases e:Qi y with
  |nil=>exact absurd e (Qj y)
  |cons c cs=>simp[fg]
 |x::xs,[],b,h=>by simp_all[aZ,fg]
 |.i a::xs,.i c::ys,b,h=>by
  rw[aZ]at h;show b=decide (a::fg xs<c::fg ys);split at h
  .rename_i e;subst e;rw[u8 xs ys b h];simp
  .simp_all[cons_lt_cons_iff]
 |.s a::xs,.s c::ys,b,h=>by
  rw[aZ]at h;rw[md,md];have M:∀(z:Str)(r:List _),Qi (.s z)++r=z.cps.toList.map (λ(c:Nat)=>(c:Int)+1)++0::r:=λz r=>by simp[Qi]
  rw[M,M];split at h
  .rename_i e;rw[u8 xs ys b h];grind[u7]
  grind[u7,Bd]
 |.i _::_,.s _::_,b,h=>by simp[aZ]at h
 |.s _::_,.i _::_,b,h=>by simp[aZ]at h
theorem zG:∀xs ys,aZ xs ys=some false->aZ ys xs=some false->xs=ys
 |[],[],_,_=>r4
 |[],y::ys,h,_=>by simp[aZ]at h
 |x::xs,[],_,h=>by simp[aZ]at h
 |.i a::xs,.i c::ys,h,k=>by
  rw[aZ]at h k;by_cases e:a=c
  .subst e;rw[if_pos r4]at h k;rw[zG xs ys h k]
  lia
 |.s a::xs,.s c::ys,h,k=>by
  rw[aZ]at h k;by_cases e:a=c
  .subst e;rw[if_pos r4]at h k;rw[zG xs ys h k]
  .rw[if_neg e]at h;rw[if_neg (Ne.symm e)]at k;simp only[Option.some.injEq,decide_eq_false_iff_not]at h k;exact absurd (Bd.mp (List.le_antisymm (not_lt.mp k) (not_lt.mp h))) e
 |.i _::_,.s _::_,h,_=>by simp[aZ]at h
 |.s _::_,.i _::_,h,_=>by simp[aZ]at h
noncomputable def fB (ks:List (List At)):Bool:=ks.all λx=>ks.all λy=>(aZ x y).isSome
theorem dW (h:fB ks=true)(hx:x∈ks)(hy:y∈ks):aZ x y=some (decide (fg x<fg y)):=by
 obtain⟨b,e⟩:=uV (uS (uS h x hx) y hy);rw[e,u8 _ _ _ e]
theorem EJ (h:fB ks=true)(hx:x∈ks)(hy:y∈ks)(e:fg x=fg y):x=y:=by
 refine zG _ _ ?_ ?_
 .grind[dW]
 grind[dW]
def yC:At->Value->Prop
 |.i n,v=>∃t,v=.int n t
 |.s z,v=>∃t,v=.str z t
inductive eK (h:Heap)(xs:List At)(v:Value):Prop|mk a o its n:v=.ref a->h.get? a=some o->o.cls=.type "tuple"->o.data=.seq its n->Paired yC xs its.toList->eK h xs v
noncomputable def iD (ks:List (List At)):Bool:=ks.all (λx=>match x with|.i _::_=>true|_=>false) || ks.all (λx=>match x with|.s _::_=>true|_=>false)
section
variable {prog:Program}{w:World}{A:Around}{E:QV}{s:Shared}
def Hj (xs ys:List At)(its M:LU)(i:Nat)(U:Paired yC xs its)(d:Paired yC ys M)(h:aZ xs ys=some b)(hf:dZ=decide (xs.length<ys.length))(q:Q b s):KatLex prog w A true dZ Q (its.zip M) i s:=by
 induction U generalizing ys M i with
 |nil=>
  refine kat_nil ?_;cases ys with
  |nil=>simp_all[aZ]
  |cons y ys=>simp_all[aZ]
 |@cons x v xs its U g f=>
  cases d with
  |nil=>
   simp_all[kat_nil,aZ]
  |@cons y u ys M d O=>
   cases x with
   |i a=>
    cases y with
    |s _=>simp[aZ]at h
    |i c=>
     obtain⟨t,rfl⟩:=U;obtain⟨u,rfl⟩:=d;refine kat_cons (wpAny_eqBool_int ?_);rw[aZ]at h;by_cases e:a=c
     .rw[if_pos e]at h;rw[show(a == c)=true by simp[e]];exact kat_yes (f ys M (i+1) O h (by rw[hf];simp))
     .rw[if_neg e]at h;cases h
      rw[show(a == c)=false by simp[e]];refine kat_no ?_;cases hb:(true && i == 0) with
      |true=>exact oneLt_int q
      |false=>exact kat_one _ _ (PyProof.Rows.lt_int q)
   |s a=>
    cases y with
    |i _=>simp[aZ]at h
    |s c=>
     obtain⟨t,rfl⟩:=U;obtain⟨u,rfl⟩:=d;refine kat_cons (wpAny_eqBool_str ?_);rw[aZ]at h;by_cases e:a=c
     .rw[if_pos e]at h;rw[kh e];exact kat_yes (f ys M (i+1) O h (by rw[hf];simp))
     .rw[if_neg e]at h;cases h
      rw[mv e];refine kat_no ?_;cases hb:(true && i == 0) with
      |true=>exact oneLt_str q
      |false=>exact kat_one _ _ (PySem.P.lt_str q)
theorem dw {α U:Type}{F:α->U->Prop}{M:List α}{O:List U}(h:Paired F M O):M.length=O.length:=h.rec r4 λ_ _ i=>congrArg _ i
def Qk{xs ys:List At}{x y:Value}{b:Bool}(hx:eK s.heap xs x)(hy:eK s.heap ys y)(h:aZ xs ys=some b)(q:Q b s):wpAny (model prog w) A (keyLt' (tuples' true) x y) Q E s:=by
 obtain⟨a,o,its,n,rfl,c,z,hd,r⟩:=hx;obtain⟨d,o',its',e,rfl,M,z,O,U⟩:=hy;refine kat_lt c hd M O (Hj xs ys _ _ 0 r U h ?_ q);rw[<-vG,<-vG,dw r,dw U]
theorem mI {ks:List (List At)}{vs:LU}(j:Paired (eK h) ks vs):(∀k∈ks,k≠[])->∃fs,KatTups h vs fs/\fs.length=ks.length/\∀v∈fs,∃k r,(k::r)∈ks/\yC k v:=by
 induction j with
 |nil=>intro _;exact⟨[],trivial,r4,X9⟩
 |cons x t n=>
  intro M;obtain⟨fs,h1,h2,h3⟩:=n λz hz=>M z (mZ _ hz);obtain⟨a,o,its,n,rfl,U,hc,hd,r⟩:=x;cases O:its.toList with
  |nil=>
   rw[O]at r;cases r
   simp_all
  |cons v vs=>
   rw[O]at r;obtain⟨p,b⟩:∃p,its[0]? = some v:=⟨(),by rw[<-Array.getElem?_toList,O];rfl⟩;cases r with
   |cons q c=>
    refine⟨v::fs,KatTups.cons U hc hd b h1,by simp[h2],λu hu=>?_⟩;grind
def Hk (hp:Paired (eK s.heap) ks vs)(hf:iD ks=true)(hn:0<ks.length)(q:Q (tuples' true) s):wpAny (model prog w) A (keyKind' vs.toArray) Q E s:=by
 obtain⟨fs,h1,h2,h3⟩:=mI hp (λk hk z=>by
  subst z;unfold iD at hf;rw[Bool.or_eq_true]at hf;rcases hf with hf|hf
  .have:=uS hf [] hk;simp at this
  .have:=uS hf [] hk;simp at this);unfold iD at hf;rw[Bool.or_eq_true]at hf;rcases hf with hf|hf
 .refine kat_kind (T:=.type "int") h1 N9 (λv O=>?_) Z9 q;obtain⟨k,r,m,z⟩:=h3 v O;have:=uS hf _ m;cases k with
  |i n=>obtain⟨t,rfl⟩:=z;exact .now
  |s U=>simp at this
 .refine kat_kind (T:=.type "str") h1 N9 (λv O=>?_) Z9 q;obtain⟨k,r,m,z⟩:=h3 v O;have:=uS hf _ m;cases k with
  |s U=>obtain⟨t,rfl⟩:=z;exact .now
  |i n=>simp at this
end
section
variable {prog:Program}{w:World}{A:Around}{E:QV}{s:Shared}
theorem cV {α U:Type}{F:α->U->Prop}(d)e{M:List α}{O:List U}(h:Paired F M O):∀ {i:Nat},i<M.length->F (M.getD i d) (O.getD i e):=by
 induction h with
 |nil=>intro i h;simp at h
 |cons r _ t=>intro i h;cases i with
  |zero=>exact r
  |succ i=>exact t (by simpa using h)
def Ki (ks:List (List At))(i:Nat):Int:=p7 (ks.map fg) (fg (ks.getD i []))
def LJ{vs:LU}(hc:fB ks=true)(hp:Paired (eK s.heap) ks vs):∀(i j)C s1,i<ks.length->j<ks.length->s1=s->(∀s',s'=s->C (p0 (Ki ks) i j) s')->kas_ask prog w A (tuples' true) vs i j C s1:=by
 intro i j C s1 hi hj e O;subst e;refine Qk (cV [] _ hp hi) (cV [] _ hp hj) (dW hc (by simp_all) (by simp_all)) ?_;have:=O s1 r4;unfold p0 Ki at this;rw[xm (mem_map.mpr ⟨_,(by simp_all),r4⟩)]at this;exact this
end
end DL
namespace DL
open PySem PySem.Spec PySem.W PyProof.Rows L2
noncomputable def NS:D->Option At
 |.int n=>some (.i n)
 |.str z=>some (.s z)
 |_=>none
def jR:LD->Option (List At)
 |[]=>some []
 |d::ds=>(NS d).bind λa=>(jR ds).map (a :: ·)
def EK:D->Option (List At)
 |.tup es=>jR es
 |_=>none
def gp:LD->Option (List (List At))
 |[]=>some []
 |d::ds=>(EK d).bind λa=>(gp ds).map (a :: ·)
def Be (ns:LI):LI:=kZ (λn=>[n]) ns
theorem me:∀ {ds:LD}{ks:List (List At)},gp ds=some ks->ks.length=ds.length
 |[],_,h=>by simp_all[gp]
 |d::ds,_,h=>by
  refine eX h λa h1 h=>eB h λr h2 h=>?_;subst h;simp[me h2]
theorem rO:∀ {ds:LD}{ks:List (List At)},gp ds=some ks->∀ {i:Nat},i<ds.length->EK (ds.getD i .non)=some (ks.getD i [])
 |[],_,h,i,hi=>by simp at hi
 |d::ds,_,h,0,hi=>by
  refine eX h λa h1 h=>eB h λr h2 h=>?_;subst h;exact h1
 |d::ds,_,h,i+1,hi=>by
  refine eX h λa h1 h=>eB h λr h2 h=>?_;subst h;exact rO h2 (by simpa using hi)
section
variable {X:Cx}
theorem xn {K:Frag}{B:Hp}{vs:LV}{es:LD}{k:List At}{its:LU}(h:aD vs its)(j:IsL K B vs es)(e:jR es=some k):Paired yC k its:=by
 induction h generalizing es k with
 |nil=>cases j;cases e;exact .nil
 |cons r _ n=>cases j with|cons i O=>
  refine eX e λa h1 h=>eB h λt h2 h=>?_;subst h;refine .cons ?_ (n O h2);cases i<;>simp [NS]at h1<;>cases h1
  .exact r
  .exact r
theorem nZ {aa:AO}{σ:St}{H:Hp}{s:Shared}(I:Inv X aa σ H s){ys:LV}{ds:LD}{ks:List (List At)}{its:LU}(f:aD ys its)(j:IsL X.K H ys ds)(h:gp ds=some ks):Paired (eK s.heap) ks its:=by
 induction f generalizing ds ks with
 |nil=>cases j;cases h;exact .nil
 |cons r _ n=>cases j with|cons i O=>
  refine eX h λa h1 h=>eB h λt h2 h=>?_;subst h;refine .cons ?_ (n O h2);rcases i with _|_|_|_|_|⟨hq,hl⟩|_|_|_|_<;>try (cases h1;done)
  cases r
  refine cX λG g=>?_;obtain⟨its',U,⟨o,b,hc,n,hd⟩,_⟩:=I.tuple hq;apply g;exact⟨_,o,_,n,r4,b,hc,hd,xn U hl h1⟩
theorem Bf {K:Frag}{B:Hp}{vs:LV}{ds:LD}(h:IsL K B vs ds):∀ {i:Nat},i<ds.length->Is K B (vs.getD i .non) (ds.getD i .non):=by
 induction h using IsL.ind with
 |n=>intro i hi;simp at hi
 |s h _ t=>intro i hi;cases i with
  |zero=>exact h
  |succ i=>exact t (by simpa using hi)
theorem xp {vs:LV}{us:LU}(h:aD vs us):∀ {i:Nat},i<vs.length->aA (vs.getD i .non) (us.getD i Value.none):=cV _ _ h
theorem xq {K:Frag}{B:Hp}{vs:LV}{ds:LD}(h:IsL K B vs ds):∀(l:LN),(∀i∈l,i<ds.length)->IsL K B (l.map λi=>vs.getD i .non) (l.map λi=>ds.getD i .non)
 |[],_=>.nil
 |i::l,hl=>.cons (Bf h (hl i (mX ..))) (xq h l λj hj=>hl j (mZ _ hj))
theorem rP (h:aD vs us):∀(l:LN),(∀i∈l,i<vs.length)->aD (l.map λi=>vs.getD i .non) (l.map λi=>us.getD i Value.none)
 |[],_=>.nil
 |i::l,hl=>.cons (xp h (hl i (mX ..))) (rP h l λj hj=>hl j (mZ _ hj))
end
section
variable {X:Cx}
theorem p8 {K:Frag}:∀(zs:LI),IsL K N (zs.map V.int) (zs.map D.int)
 |[]=>.nil
 |z::zs=>.cons (.int z) (p8 zs)
def Hl (p:l'.Perm l)(h:l'.Pairwise (·<=·)):l'=Be l:=by
 refine xl _ (λx z y z e=>by injection e) p (h.imp λ{a b} M=>?_);grind[Kh,cons_lt_cons_iff]
end
end DL
namespace DL
open PySem PySem.Spec PyProof.Rows L2
section
variable {X:Cx}{e:Expr}{pos pos2 p p2:Pos}
def qS:aY X (.builtin "len") (λxs H Q=>∃S ts,xs=[.ref S]/\H S=some (wZ X S ts)/\Q (.int ts.length) H):=by
 intro aa s σ H xs us Q I r h;obtain⟨S,ts,rfl,O,q⟩:=h;obtain⟨u,rfl,U⟩:=cZ r;cases U
 refine cX λG g=>?_;obtain⟨o,es,d,t,b,M,hd,f,hp,nd,hb,hf,z⟩:=(I.hok S _ O).1;apply g;have sz:es.size=ts.length:=by rw[<-hp.length_eq,vI,vG]
 have c:ts.length<4096:=hb;exact PySem.call_len_set b M hd hf (by rw[sz];lia) ⟨.int _,H,I.tok _,⟨_,by rw[sz]⟩,q⟩
set_option tactic.hygienic true in
def EL (hc:X.calm=true)(m1:X.mg "len" = none)(m2:X.mg "set" = none)(he:JE X e f)(g1:Gl X "len")(c:Gl X "set")
  (h1:bE e [] X.env):JE X (.Call (.Name "len" p) [.Call (.Name "set" p2) [e] [] pos2] [] pos) (f1 LF f):=by
 refine PE.to (hV qS g1 m1 kK (av (lN (mH hc) c m2 NR (av he aN h1) (he:=h1)) aN)) λσ H Q q=>?_;refine cX λG K=>?_;obtain⟨B,ρ,d',l,d,r,M,q⟩:=q;refine eX M λU ex M=>?_;apply K;refine⟨B,ρ,U.1,U.2,d,r,ex,λv m N1 O i1 fr=>?_⟩;obtain⟨xd,n⟩:=U;cases i1<;>try (simp at M)
 rename_i s vs ds h hl;refine eX M λa g M=>?_;split at M
 .rename_i i;cases M
  refine⟨_,_,a,r4,O.nh.seq h,λits j=>gl j hl g,i,λS k=>⟨S,_,r4,ae,?_⟩⟩;have b:=Ext.laid (o:=wZ X S (gY a)) O.nh k;exact(q.into (O.trans b)).one (O.trans b).nh (.int _)
 .cases M
end
section
variable {X:Cx}{a:Expr}{pos:Pos}{x:Str}{p:Pos}{d:Addr}{ay:List (Str×D)}
def EM (O:kS X.K X.w.params d ay):bT X (compareOp .NotIn) (λx y H Q=>∃z,x=.str z/\y=.ref d/\Q (.bl (!(ay.lookup z).isSome)) H):=by
 rintro aa s σ H r r v u Q I U b ⟨z,rfl,rfl,q⟩;cases b
 obtain⟨t,rfl⟩:=U;obtain⟨f,c,e,hf⟩:=O.map I;refine wpAny_notIn_of (strKind_is _ _ z t) e c ⟨.bl _,H,I.tok _,?_,q⟩;have:=hf z;cases M:ay.lookup z with
 |none=>rw[M]at this;rw[this];rfl
 |some dd=>rw[M]at this;obtain⟨r,r,g,r⟩:=this;rw[g];rfl
set_option tactic.hygienic true in
def rQ (h:∃d,X.mg x=some (.ref d)/\kS X.K X.w.params d ay)(ha:JE X a f)(c:autoParam (Gl X x) I9._auto_1)(hd:autoParam (aS x) Z9._auto_1)(hm:autoParam (behindInMarks .NotIn (.Name x p)=false) I9._auto_1):JT X (.Compare a [.NotIn] [.Name x p] pos) (c8 (f1 (zy ay) f)):=by
 obtain⟨d,O,e⟩:=h;refine PT.to (t8 (EM e) ha (cO (v:=.ref d) c O r4 hd) hm) λσ H Q q=>cX λG W=>?_;obtain⟨B,ρ,d',i,g,r,M,q⟩:=pd q;refine eX M λU ex M=>?_;apply W;refine⟨B,ρ,U.1,U.2,g,r,ex,λv j N1 b i1 fr=>?_⟩;obtain⟨xd,k⟩:=U;cases i1<;>try (simp at M;done)
 rename_i z;cases M
 exact⟨z,r4,r4,(q.into b).one b.nh (by rw[pq];exact .bl _)⟩
end
section
variable {prog:Program}{w:World}{A:Around}{E:QV}{s:Shared}
def zH {a:Addr}{o:Obj}{its:AV}{n:Nat}{x:Value}{e:Value->Bool}{j:Nat}{P:PySem.Fin->Shared->Prop}(b:s.heap.get? a=some o)(hd:o.data=.seq its n)
  (he:∀y∈its,MeetsSeq.EqGives y x (e y)) (hj:j<its.size) (Kd:e its[j]=true) (M:∀m (hm:m<its.size),m<j->e its[m]=false)
  (h:P (.done (.ret (.int j s.toks))) { s with toks:=s.toks+1 }):wpAny (model prog w) A (Builtin.«tuple.index» ⟨[.ref a,x],[]⟩) P E s:=by
 show wpAny _ _ (Builtin.Tuple.tupleItemsOf _>>=_) _ _ s;refine wX (wpAny_tupleItemsOf b hd ?_);refine wX (wY (wX (wY (wX ?_))));rw[Std.Legacy.Range.forIn_eq_forIn_range'];refine wpAny_forIn_list _
  (λbu r s'=>r.1=none/\s'=s/\∃i,i<=j/\bu=List.range' i (its.size - i))
  _ ?_ ?_ _ _ ⟨r4,r4,0,uO _,?_⟩
 .rintro k bu r s' ⟨d,rfl,i,hi,hz⟩;have f:i<its.size:=N9
  obtain⟨m,hm⟩:∃m,its.size - i=m+1:=⟨its.size - i - 1,N9⟩;rw[hm]at hz;injection hz with O g;have O:=O.symm;subst O;have c:its[i]? = some its[i]:=X9
  simp only[c];refine wX (he _ (Array.getElem_mem _) _ w _ _ _ _ ?_);by_cases U:i=j
  .subst U;rw[Kd];refine wX ?_;exact wX (wpAny_mkInt (wY (wY (wY h))))
  .rw[M i _ N9];exact wY ⟨r4,r4,i+1,N9,by grind⟩
 .grind
 .simp
end
theorem CRows.findT {K:Frag}{P:Params}(y:Str){ds:LD}{es:List DictEntry}{ay:List (Str×D)}(h:CRows K P es ay):ay.lookup y=some (.tup ds) ->
  ∃e a its n gZ,es.find? (λe=>Value.isStrOf y e.key)=some e/\e.val=.ref a/\K.lookup a=some ⟨.type "tuple",none,.seq its n,gZ⟩/\gF its.toList ds=true:=by
 induction h with
 |nil=>intro h;simp at h
 |@tup x t _ a _ _ _ O _ _ hh l f _ tl=>
  intro h;by_cases e:y=x
  .subst e;rw[List.lookup_cons_self]at h;cases h
   rw[vD]at f;exact⟨_,a,_,_,_,List.find?_cons_of_pos (by simp[Value.isStrOf]),r4,l,f.2⟩
  .rw[lookup_cons,beq_eq_false_iff_ne.mpr e]at h;have M:Value.isStrOf y (Value.str x t)=false:=by
    rw[Bool.eq_false_iff];intro z;obtain⟨t',q⟩:=Value.isStrOf_shape z;simp_all
   simp only[find?_cons,M];exact tl h
 |@flat x t _ u d _ _ hh f _ tl=>
  intro h;by_cases e:y=x
  .subst e;rw[lookup_cons,beq_self_eq_true]at h;cases h;cases u<;>cases f
  .rw[lookup_cons,beq_eq_false_iff_ne.mpr e]at h;have M:Value.isStrOf y (Value.str x t)=false:=by
    rw[Bool.eq_false_iff];intro z;obtain⟨t',q⟩:=Value.isStrOf_shape z;simp_all
   simp only[find?_cons,M];exact tl h
section
variable {X:Cx}{b e:Expr}{pos:Pos}{x:Str}{p:Pos}
inductive KB (K:Frag)(x:V)(xs:LV)(H:Hp)(Q:VK):Prop|mk (a:Addr)(o:Obj)(its:AV)(n:Nat)(zs:LS)(y:Str):x=.ref a->xs=[.str y]->K.lookup a=some o->o.cls=.type "tuple"->o.data=.seq its n->StrsAre its.toList zs->zs.findIdx (· == y)<zs.length->Q (.int (zs.findIdx (· == y):Nat)) H->KB K x xs H Q
def YA (K:Frag):V->LV->Hp->VK->Prop:=λx xs H Q=>KB K x xs H Q
noncomputable def NT (y:Str):Value->Bool
 |.str z _=>z == y
 |_=>false
theorem Bg {its:LU}{zs:LS}(h:StrsAre its zs):∀(i)hi,∃(h:i<zs.length)(t:Tok),its[i]=.str zs[i] t:=by
 induction h with
 |nil=>intro i hi;simp at hi
 |cons z t _ n=>intro i hi;cases i with
  |zero=>exact⟨X9,t,r4⟩
  |succ i=>obtain⟨h',t',e⟩:=n i (by simpa using hi);simp_all
theorem xr {its:LU}{zs:LS}(h:StrsAre its zs):its.length=zs.length:=h.rec r4 λ_ _ _ _ _ i=>congrArg _ i
def Hm:Kg X "tuple.index" (YA X.K):=by
 intro aa s σ H x xs v us Q I c d h;obtain⟨a,o,its,n,zs,y,rfl,rfl,lk,hc,hd,hz,hk,q⟩:=h;cases c
 obtain⟨u,rfl,⟨t,rfl⟩⟩:=d.one;have U:=I.kIn a o lk;have hl:=xr hz;rw[vG]at hl;have at':∀(i:Nat)(hi:i<its.size),∃(h:i<zs.length)(t:Tok),its[i]=.str zs[i] t:=λi hi=>by
  obtain⟨h',t',e⟩:=Bg hz i (by simpa using hi);exact⟨h',t',by simpa using e⟩
 refine wpAny_call_entry PySem.F.slot_tuple_index ⟨o,U,hc⟩ PySem.F.entry_tuple_index (zH (e:=NT y) U hd (λz hm=>?_) N9 ?_ (λm hm O=>?_) ⟨_,r4,.int _,H,I.tok _,⟨_,r4⟩,q⟩) (PySem.F.args_tuple_index_2 _ _)
 .obtain⟨i,hi,rfl⟩:=Array.mem_iff_getElem.mp hm;obtain⟨r,t',M⟩:=at' i hi;rw[M];exact eqGives_str _ _ _ _
 .obtain⟨_,t',M⟩:=at' (zs.findIdx (· == y)) N9;rw[M];exact List.findIdx_getElem (w:=hk)
 .obtain⟨_,t',M⟩:=at' m hm;rw[M];have:=List.not_of_lt_findIdx O;simpa [NT]using this
@[simp] def Hn (ay:List (Str×D)):D->D->OB
 |.str y,.str z=>match ay.lookup y with
  |some (.tup ds)=>(gV ds).bind λzs=>if zs.findIdx (· == z)<zs.length then some (.int (zs.findIdx (· == z):Nat),false)else none
  |_=>none
 |_,_=>none
def LL {ay:List (Str×D)}{f g:FE}{aW aO:Pos}(h:∃d,X.mg x=some (.ref d)/\kS X.K X.w.params d ay)(hb:JE X b f)(he:JE X e g)(C:Gl X x)(E:aS x)(hs:k7 b)
  (O:attributeBase (.Subscript (.Name x p) b pos) "index" X.env (eval (.Subscript (.Name x p) b pos) X.env)=eval (.Subscript (.Name x p) b pos) X.env)
  (G:m4 aO e X.env)
  (U:(aW.endLine == aO.line)=true) (m:ce e X.env):
  JE X (.Call (.Attribute (.Subscript (.Name x p) b pos) "index" aW) [e] [] aO) (f2 (Hn ay) f g):=by
 obtain⟨d,hm,J⟩:=h;have L:Pr X (λx y H Q=>∃z ds,x=.ref d/\y=.str z/\ay.lookup z=some (.tup ds)/\∀a its n gZ,X.K.lookup a=some ⟨.type "tuple",none,.seq its n,gZ⟩->gF its.toList ds=true->Q (.ref a) H):=by
  intro c i aa s σ H x y v u Q I N P q hs;obtain⟨z,ds,rfl,rfl,j,q⟩:=q;cases N
  obtain⟨t,rfl⟩:=P;obtain⟨es,n,l,r,sm⟩:=J;have o:=PySem.W.mapOf_K (prog:=X.prog) I.kIn l r.lit;obtain⟨en,a,its,n',gZ,e1,e2,R,S⟩:=r.findT z j;have T:findBy Value.isStrOf es z=some (.ref a):=by
   simp_all[findBy]
  exact tail_any o.typeIs slot_dict_getitem.lookup (wpAny_getItem_of (strKind_is X.prog X.w z t) o T ⟨.ref a,H,I.tok _,r4,q a _ _ _ R S⟩) hs
 refine PE.to (oQ PySem.F.plainAttrs_tuple PySem.F.slot_tuple_index PySem.F.type_tuple_index Hm (Gm L (cO (v:=.ref d) C hm r4 E) hb hs) (av he aN m) O G U m r4) λσ H Q q=>?_;obtain⟨B,ρ,d',bb,V,r,M,q⟩:=q;refine eX M λY ex M=>?_;refine eX M λZ ey M=>?_;obtain⟨xd,xb⟩:=Y;obtain⟨yd,yb⟩:=Z;cases xd with
 |str z=>
  cases yd with
  |str y=>
   refine⟨B,ρ,_,xb,V,r,ex,λv H1 N1 k i1 _=>?_⟩;cases i1
   simp only[Hn]at M;split at M
   .rename_i ds j;refine eX M λzs ez M=>?_;split at M
    .rename_i hk;cases M
     refine⟨z,ds,r4,r4,j,λa its n gZ l fl=>⟨.inr (.inl ⟨r4,_,l,r4,r4⟩),N1,ρ,_,yb,k.nh,r.mono k.bn,ey,λv2 H2 N2 A i2 _=>?_⟩⟩;cases i2
     obtain⟨vs,rv,iv⟩:=gG (K:=X.K) fl;exact⟨a,_,its,n,zs,y,r4,r4,l,r4,r4,gl rv (iv N2) ez,hk,(q.into (k.trans A)).one A.nh (.int _)⟩
    simp_all
   simp_all
  |_=>simp[Hn]at M
 |_=>simp[Hn]at M
end
open PySem.W (tabIn tabObj CodeHd kla_fn kla_obj kla_eval kla_makeFunction kla_makeFunctionHit kla_callFunE kla_codeExpr envX)
def TR (K:Frag)(c P:Addr):Prop:=∃o vs O a M tg U text b,K.lookup c=some o/\o.cls=.type "code"/\o.data=.fields vs/\vs[11]? = some (.ref P)/\vs.getD 11 .none=.ref P/\vs.getD 18 .none=.str O a /\
 vs.getD 7 .none=.int M tg/\vs.getD 9 .none=.bool U/\vs.getD 10 .none=.int text b/\c≠P
inductive xu (K:Frag)(x:Str):Prop|mk c P:tabIn K x=some (c,P)->TR K c P->xu K x
inductive Ho (H:Hp)(f:Addr)(q:Str)(params:Arguments)(M:Expr)(scope:Scope)(cl:List (Str×Addr)):Prop|mk pm c O u oc u' vs t:H f=some (.frz (kla_obj "<lambda>" q params M scope cl pm c O) u)->H c=some (.frz oc u')->oc.data=.fields vs->vs[1]? = some (.str q t)->Ho H f q params M scope cl
def Ho.mono (h:Ho H f q params O scope cl)(e:au H H'):Ho H' f q params O scope cl:=by obtain⟨pm,c,M,u,oc,u',vs,t,h1,h2,h3,h4⟩:=h;exact⟨pm,c,M,u,oc,u',vs,t,e _ _ h1,e _ _ h2,h3,h4⟩
def lam_mk {K:Frag}{x:Str}{f c P:Addr}{oc:Value}{od b:Option Addr}{gZ U:Array (Option Value)}{fd:FuncData}{vs:AV}{O:Str}{d tg e:Tok}{M text:Int}{g:Bool}(j:PySem.W.nsIn K mainGlobals x=some (some (.ref f)))(e2:K.lookup f=some ⟨oc,od,.func fd,gZ⟩)
  (k:fd.code=.ref c) (h:K.lookup c=some ⟨.type "code",b,.fields vs,U⟩) (i:vs[11]? = some (.ref P)) (l:vs.getD 11 .none=.ref P) (m:vs.getD 18 .none=.str O d) (n:vs.getD 7 .none=.int M tg) (o:vs.getD 9 .none=.bool g) (p:vs.getD 10 .none=.int text e) (a:(c == P)=false):xu K x:=
 ⟨c,P,tab_yes j e2 k h i,_,vs,O,d,M,tg,g,text,e,h,r4,r4,i,l,m,n,o,p,λz=>by rw[z]at a;simp at a⟩
def zI l(h:TriplesOk l)(e:codeAmong pos (l++[rawInt a,rawInt b,c])=some cv):codeAmong pos l=some cv\/cv=c:=by
 fun_induction TriplesOk l with
 |case1=>
  simp_all[rawInt,codeAmong]
 |case2 M t O u x bu U=>
  simp only[cons_append,codeAmong]at e |-;split<;>simp_all
 |case3 l h1 h2=>exact h.elim
section
variable {X:Cx}{aa:AO}{σ:St}{H:Hp}{s:Shared}
def Hq
  (hx:x∈ij) (L:xu X.K x) (hc:∀c P,tabIn X.K x=some (c,P)->X.env.code=.ref c) (hq:X.env.qual ++ "<lambda>" = qO x) (ZY:defaultsOf params X.env=([],[])) (V:closureFor scope X.env=pure cl)
  (I:Inv X aa σ H s) (tb:Tb X.K H) (k:∀f H' s',Inv X aa σ H' s'->au H H'->Ho H' f (qO x) params body scope cl->Q (.ref f) s'):
  wq X (eval (.Lambda params body scope pos) X.env) Q E s:=by
 refine kla_eval ZY ?_;rw[hq];obtain⟨c,P,W,o,vs,ZZ,tf,WV,tg,XF,text,tt,lk,ck⟩:=L;have O:=hc c P W;have A:=tb x hx c P W;obtain⟨ps,e,B,co⟩:=I.hok P _ A;have C:CodeHd s.heap c P:=⟨o,vs,ZZ,tf,WV,tg,XF,text,tt,I.kIn c o lk,ck⟩;have Y:s.heap.Ns mainGlobals X.mg:=I.mod.glob.keeps I.bk;have l:∀b,H b=none->b≠P:=λb n z=>by rw[z,A]at n;cases n
 have D:mainGlobals≠P:=by
  obtain⟨og,_,_,Z,_⟩:=I.mod.glob;exact l _ (I.bs _ _ Z).2
 have hb:s.heap.BuiltinsAt X.mg P:=by
  obtain⟨bm,ob,b1,b2,b3,b4,b5,b6⟩:=I.mod.bmain;refine⟨bm,ob,b1,b2,λz=>?_,l _ (I.bs _ _ b3).2,I.bk _ _ b3,b4,b5,b6⟩;obtain⟨og,es,ep,Z,dg,_⟩:=I.mod.glob;simp_all
 cases hf:codeAmong pos ps.toList with
 |some cv=>
  obtain⟨M,oc,u,ws,t,rfl,hH,hd,m⟩:=co pos cv hf;refine kla_makeFunctionHit (mg:=X.mg) V I.ok.glob Y O C e B hf hb λU h' tk hk hsz=>?_;have hn:H h'.objs.size=none:=I.hok.fresh hsz;have a:au H (upd H h'.objs.size (.frz (kla_obj "<lambda>" (qO x) params body scope cl ((X.mg "__name__").getD .none) M U) (.own h'.objs.size))):=λb u q=>by rw[af (ar q hn)];exact q
  refine k _ _ _ (I.laid (t':=tk) (λb u q=>vZ _ (hk b u q)) hsz (show aE X.prog X.w _ _ _ (.frz _ (.own h'.objs.size))from ⟨vY _ r4,_,vY _ r4⟩)) a ?_;exact⟨_,M,U,_,oc,u,ws,t,ae,a _ _ hH,hd,m⟩
 |none=>
  refine kla_makeFunction (mg:=X.mg) V I.ok.glob Y O C e B hf D hb λM U h' tk hx' g lH i F=>?_;obtain⟨c2,oc,ws,t,e2,O7,hd,m⟩:=i;cases e2
  have G:H M=none:=I.hok.fresh g;have hsz:s.z<=h'.objs.size:=vR g (le_of_lt lH);have J:H h'.objs.size=none:=I.hok.fresh hsz;have N:M≠h'.objs.size:=vS lH;let fo:Obj:=kla_obj "<lambda>" (qO x) params body scope cl ((X.mg "__name__").getD .none) M U;let p:Hp:=upd (upd H M (.frz oc (.own M))) h'.objs.size (.frz fo (.own h'.objs.size));have a:au H p:=λb u q=>by
   show upd _ _ _ b=_;rw[af (ar q J),af (ar q G)];exact q
  have h:p M=some (.frz oc (.own M)):=by show upd _ _ _ M=_;rw[af N,ae]
  have keep:∀b u,b≠P->s.heap.get? b=some u->(h'.push fo).get? b=some u:=λb u n q=>vZ _ (hx' b u n q);have lt:∀b u,s.heap.get? b=some u->b≠M/\b≠h'.objs.size:=λb u q=>⟨vS (vQ (vX q) g),vS (vQ (vX q) hsz)⟩;have WW:(h'.push fo).get? P=some (tabObj (ps++#[rawInt pos.line,rawInt pos.col,.ref M])):=vZ _ F;refine k _ p _ (I.un (t':=tk) (h':=h'.push fo) ⟨λb u q n _ _=>keep b u (l b n) q,λb u q n _ _=>⟨u.slots,keep b u (l b n) q⟩,λb u q n _=>?_,λb u q _=>?_,λb xs q=>a _ _ q,λb ob u q=>a _ _ q,λb u q=>a _ _ q⟩ λb u q=>?_) a ⟨_,M,U,_,oc,_,ws,t,ae,h,hd,m⟩
  .show upd _ _ _ b=_;rw[af (lt b u q).2,af (lt b u q).1];exact n
  .by_cases z:b=P
   .subst z;exact⟨_,WW⟩
   .exact⟨u,keep b u z q⟩
  .by_cases z1:b=h'.objs.size
   .subst z1;have j:some (HO.frz fo (.own h'.objs.size))=some u:=by rw[<-q];exact ae.symm
    cases j
    exact⟨vY _ r4,_,vY _ r4⟩
   .by_cases z2:b=M
    .subst z2;rw[h]at q;cases q;exact⟨vZ _ O7,_,vZ _ O7⟩
    .have j:H b=some u:=by
      have:p b=H b:=by show upd _ _ _ b=_;rw[af z1,af z2]
      rw[<-this];exact q
     by_cases z3:b=P
     .subst z3;rw[A]at j;cases j;refine⟨_,WW,?_,λnJ R y=>?_⟩
      .simp_all[TriplesOk_snoc]
      .rw[Array.toList_append]at y;rcases zI _ B y with y|rfl
       .obtain⟨c3,S,u3,T,t3,y1,y2,y3⟩:=co nJ R y;exact⟨c3,S,u3,T,t3,y1,a _ _ y2,y3⟩
       .exact⟨M,oc,_,ws,t,r4,h,hd,m⟩
     .refine(I.hok b u j).stay (λd v XG r=>keep d v ?_ r) (λd r=>a _ _ r) (λd xs r=>a _ _ r) λd ob v r=>a _ _ r;simp_all<;>lia
end
section
variable {P:Program}{w:World}{K:Frag}{mg:SV}{base:Heap}
set_option tactic.hygienic true in
def nD.fnL {x:Str}{st:Stmt}{N ps:LS}{k:Nat}{g:FS}{h:Heap}(F:nD K x st)(X:K.In h)(G:h.Ns mainGlobals mg)(S:FnScope N ps (aj st))
  (O:∀(kV doc pm:Value)(an:Option Addr)(bD ct:Value)(us:LU),us.length=ps.length->bindArgs (fnOf x x (cf st) (aK st) (aj st) .none kV doc pm an bD ct) ⟨us,[]⟩=pure (ps.zip us))
  (hb:∀(f:Addr)(bD:Value)(A:Around)(outer:List PySem.Env)(s:Shared)(H:Hp)(E:XK),(∀c P,tabIn K x=some (c,P)->bD=.ref c)->bB k (A.deeper (envOfC x (aj st) s.z f bD))->yY (bK oR P w K mg base N x (aj st) f bD A outer s H E).nox (aK st) g):
  Fn P w K mg base (k+1) x (f8 g ps.length (N.length - ps.length)):=by
 obtain⟨f,fd,U,a⟩:=F;have n:=U;obtain⟨oc,od,kV,doc,pm,an,bD,ct,gZ,rfl,lk,o⟩:=n.ex;have hc:∀c P,tabIn K x=some (c,P)->bD=.ref c:=λc P e=>by
  unfold tabIn at e;simp only[a,lk]at e;split at e
  .split at e
   .split at e
    .cases e;rfl
    .cases e
   .cases e
  .cases e
 have len:∀vs H Q E,PK K (f8 g ps.length (N.length - ps.length)) vs H Q E->vs.length=ps.length:=λvs H Q E h=>by
  refine cX λW Y=>?_;obtain⟨B,ds,d,b,j,i,e,q⟩:=h;apply Y;clear Y;unfold f8 at e;split at e
  .rename_i hl;rw[i.length];exact hl
  simp_all
 refine⟨f,_,ps,m7 lk o S len λA outer s H vs Q E p h=>⟨_,kj.nox (hb f bD A outer s H E hc p),?_⟩,mg_of X G a,U.kp,U.binds O⟩;have M:=len vs H Q E h;refine cX λW Y=>?_;obtain⟨B,ds,d,b,j,i,e,q⟩:=h;apply Y;clear Y;unfold f8 at e;rw[if_pos (by rw[<-i.length];exact M)]at e;have l:=pf (N:=N) j.1 j.2 i;rw[M]at l;split at e
 .rename_i d' z m;cases e
  exact⟨B,H,_,_,⟨B,l⟩,m,λv H' N' r t u=>q v H' N' r t u⟩
 .rename_i ρ' m;cases e
  exact⟨B,H,_,_,⟨B,l⟩,m,λy H' ⟨N',s'⟩=>q .non H' N' s'.ext .non X9⟩
 simp_all
end
inductive jc (X:Cx)(N':List Str)(scope:Scope)(cl:List (Str×Addr)):Nat->List Nat->Prop where
 |nil {j:Nat}(h:N'.length=j):jc X N' scope cl j []
 |cons {j i:Nat}{r:List Nat}{x:Str}(h1:N'[j]? = some x) (h2:X.N[i]? = some x) (h3:X.env.kindOf x=some .cell\/X.env.kindOf x=some .free)
   (h4:scope.names.lookup x=some .free) (h5:cl.lookup x=X.env.cells.lookup x) (t:jc X N' scope cl (j+1) r):jc X N' scope cl j (i::r)
theorem jc.len {j:Nat}{M:LN}(h:jc X N' scope cl j M):N'.length=j+M.length:=by
 induction h with
 |nil h=>rw[h];rfl
 |cons _ _ _ _ _ _ i=>rw[i,vE];lia
theorem jc.get {j:Nat}{M:LN}{k i:Nat}(h:jc X N' scope cl j M):M[k]? = some i->∃x,N'[j+k]? = some x/\X.N[i]? = some x/\(X.env.kindOf x=some .cell\/X.env.kindOf x=some .free) /\
  scope.names.lookup x=some .free/\cl.lookup x=X.env.cells.lookup x:=by
 induction h generalizing k with
 |nil _=>exact λe=>by simp at e
 |cons h1 h2 h3 h4 h5 _ n=>
  intro e;cases k with
  |zero=>simp at e;subst e;exact⟨_,h1,h2,h3,h4,h5⟩
  |succ k=>obtain⟨x,q,r⟩:=n (by simpa using e);exact⟨x,N9,r⟩
noncomputable abbrev xw (X:Cx)(N':LS)(scope:Scope)(cl:List (Str×Addr))(q:Str)(A:Around)(f c:Addr)(s:Shared)(H:Hp):Cx:=
 { X with A:=A.deeper (envX q scope s.z f (.ref c) cl),N:=N',s₀:=s,H₀:=H,env:=envX q scope s.z f (.ref c) cl,outer:=X.stack,stack:=envX q scope s.z f (.ref c) cl::X.stack,ex:=[],fn:=λy=>false,calm:=true,pn:=[],xe:=λy y=>False }
structure LamSc (X:Cx)(scope:Scope)(cl:List (Str×Addr))(y:Str):Prop where
 clos:closureFor scope X.env=pure cl
 nocell:∀z∈scope.names,z.2≠.cell
 kind:scope.kind=.function
 co:scope.isCoroutine=false
 gen:scope.isGenerator=false
 par:scope.names.lookup y=some .local
 sub:∀x c,cl.lookup x=some c->X.env.cells.lookup x=some c
 has:∀x,scope.names.lookup x=some .free->∃c,cl.lookup x=some c
def TU (h1:∀z∈scope.names,z.2≠.cell)(h2:scope.kind=.function)(h3:scope.isCoroutine=false)(M:scope.isGenerator=false)(hp:scope.names.lookup y=some .local)
  (O:(scope.names.all λz=>!(z.2 == NameKind.free) || (X.env.cells.lookup z.1).isSome)=true):LamSc X scope (cc scope.names X.env.cells []) y:=by
 have h4:∀z∈scope.names,z.2=.free->(X.env.cells.lookup z.1).isSome=true:=λz hz e=>by
  grind
 exact⟨r0 _ [] h4,h1,h2,h3,M,hp,λx c=>kE _ [] (λy d q=>by cases q),λx h=>by
  exact uV (kF _ [] (eI h) (h4 _ (eI h) r4))⟩
section
variable {X:Cx}{aa:AO}{σ:St}{H:Hp}{s:Shared}{A:Around}{N':LS}{scope:Scope}{cl:List (Str×Addr)}{q y:Str}{fU:LN}
def LM (S:LamSc X scope cl y)(B:N'[0]? = some y)(cp:jc X N' scope cl 1 fU)(I:Inv X aa σ H s)(C:A.frames=some X.stack)(hh:A.handled=none)(r:aA v u)
  (D:h₁.Ns s.z (λx=>[(y,u)].reverse.lookup x)) (hk:∀b o,s.heap.get? b=some o->h₁.get? b=some o):
  Inv (xw X N' scope cl q A f c s H) [] (some v::wu 0 fU σ) H { s with heap:=h₁,toks:=tk }:=by
 have M:∀b:Addr,b∉(xw X N' scope cl q A f c s H).ex:=λb z=>absurd (show b∈([]:List Addr)from z) X9;refine⟨⟨I.ok.mod,S.kind,r4,r4,vT _,λx z d g e2=>I.ok.inj x z d (S.sub _ _ g) (S.sub _ _ e2),λx hx=>?_,(λx d e=>by cases e),λZ=>hh,Around.frames_deeper C,.inr ⟨r4,r4⟩,λb z=>absurd z (M b),I.bs,vR I.ok.bsz I.sz,λb Z Z=>M b,λb z=>absurd z (M b),I.stack,I.stkFree⟩,
  r4,I.bare,Un.kept hk,⟨_,D,λi x n g e2 G=>?_⟩,λx d e=>?_,I.hok.fresh (vT _),λx d e=>I.freeC x d (S.sub _ _ e),λp hp=>absurd (show p∈([]:AO)from hp) X9,I.hok.kept hk,?_⟩
 .have hx':=hx;rcases hx' with hx'|hx'
  .exact absurd r4 (S.nocell _ (eI hx'))
  .exact S.has x hx'
 .cases i with
  |zero=>
   have U:=g;rw[B]at U;cases U;have O:=by simpa using e2
   cases O
   exact⟨u,r,.inl ⟨S.par,X9⟩⟩
  |succ k=>
   have O:=by simpa using e2
   obtain⟨k',h,J,g1,a⟩:=ue O;have:k=k':=N9
   subst this;obtain⟨t,n1,n2,n3,E,n5⟩:=cp.get g1;have:t=x:=by
    lia
   subst this;have j:σ[h]? = some (some n):=by
    cases z:σ[h]? with
    |none=>rw[z]at a;cases a
    |some w=>rw[z]at a;cases w with
     |none=>cases a
     |some w=>cases a;rfl
   obtain⟨m,Z,hl⟩:=I.loc;obtain⟨u',ru,lk⟩:=hl h t n n2 j (by
    rcases n3 with n3|n3
    .exact .inr (.inl n3)
    .exact .inr (.inr n3))
   refine⟨u',ru,.inr ⟨.inr E,?_⟩⟩;rcases lk with⟨l1,Z⟩|⟨Z,d,l2,F⟩
   .lia
   .obtain⟨ob,l,hd⟩:=F;exact⟨d,by rw[n5];exact l2,ob,hk _ _ l,hd⟩
 .obtain⟨w,ob,l,hd⟩:=I.cell x d (S.sub _ _ e);exact⟨w,ob,hk _ _ l,hd⟩
 .have:=cp.len;unfold wu;rw[this];simp;lia
def LO (S:LamSc X scope cl y)(l:N'[0]? = some y)(cp:jc X N' scope cl 1 fU)(I:Inv X aa σ H s)
  (m:A.frames=some X.stack) (hh:A.handled=none) (M:A.depth<recursionLimit) (n:Ho H f q params body scope cl)
  (O:∀pm c h u,bindArgs (kla_fn "<lambda>" q params body scope cl pm (.ref c) h) ⟨[u],[]⟩=pure [(y,u)])
  (hb:∀(f c:Addr)(s:Shared)(H:Hp),JE (xw X N' scope cl q A f c s H) body fb)
  (rep:bQ X.K B σ ρ) (p:au B H) (r:aA v u) (i:Is X.K B v d) (e:fb (some (d,false)::g9 0 fU ρ)=some (d',b')) (x:Fin X.K B H d' b' Q):
  wpAny (model X.prog X.w) A (call (.ref f) [u]) (EP X aa σ Q) (λZ Z=>False) s:=by
 refine cX λk W=>?_;obtain⟨pm,c,h,V,oc,u',ws,t,hf,hc,hd,C⟩:=n;apply W;clear W;have D:=(I.hok f _ hf).1;have E:=(I.hok c _ hc).1;refine wpAny_call (codeAny_mono (R:=λr s'=>CR oR X.stack X.prog X.w H s Q (λZ Z Z=>False) r s') ?_ λr s' hq=>?_)
 .refine kla_callFunE M D r4 S.co S.gen r4 ⟨c,oc,ws,t,r4,E,hd,C⟩ ?_;rw[O];refine wY (wpAny_newFunctionEnv S.nocell (λz hz=>by rw[uU hz];exact S.par) (λk F a=>⟨I.nolimit.fresh _ a,?_⟩) S.kind);have U:=λb o e=>a.extBut b o (vS (vX e)) (vZ _ e);have J:=LM (f:=f) (c:=c) (q:=q) (tk:=s.toks+1) S l cp I m hh r F U;refine kla_codeExpr (wpAny_mono (hb f c s H [] _ _ H Q J ⟨B,_,d',b',p,⟨rep.tb,λj G L z=>?_⟩,e,x⟩) (λw s' hw=>?_) λZ Z z=>z.elim)
  .cases j with
   |zero=>
    simp_all
   |succ j=>
    obtain⟨w,h1,h2⟩:=(rep.caps ).at' j G L (by simpa using z);simp_all
  .obtain⟨N,H',g,P,T⟩:=hw;exact⟨N,H',g.os,g.bare,g.base,g.hok,P,T⟩
 .cases r with
  |error e=>exact False.elim hq
  |ok fl=>
   cases fl with
   |ret w=>exact I.after hq
   |next=>exact False.elim hq
   |brk=>exact False.elim hq
   |cont=>exact False.elim hq
end
end DL
namespace DL
open PySem PySem.Spec PySem.W PyProof.Rows L2
section
variable {X:Cx}{aa:AO}{σ:St}{H:Hp}{s:Shared}{h':Heap}{t':Nat}
def mf (I:Inv X ((p,o)::aa) σ H s):∀x c,X.env.cells.lookup x=some c->c≠p:=λx c e z=>by
 have M:=I.pin _ (mY _ mX);obtain⟨v,ob,O,hd⟩:=I.cell x c e;simp_all
def iE (I:Inv X (p::aa) σ H s):Inv X aa σ H s:=I.pins_of λq hq=>I.pin q (mY _ (mZ _ hq))
def eM (I:Inv X ((p,o)::aa) σ H s)(h0:X.s₀.z<=p)(hp:∀q∈X.pn++aa,q.1≠p)(k:∀b u,b≠p->s.heap.get? b=some u->h'.get? b=some u)(O:h'.get? p=some o')(U:∀v,o'.data≠.cell v):
  Inv X ((p,o')::aa) σ H { s with heap:=h',toks:=t' }:=by
 have M:=I.pin _ (mY _ mX);have J:=(iE I).turned (t':=t') k M.2.1 M.2.2.1 (.inr h0) (mf I) hp;refine J.pins_of λq hq=>?_;rcases vP hq with rfl|hq
 .simp_all
 .exact J.pin q (mY _ hq)
def oh (I:Inv X aa σ H s)(k:∀b u,s.heap.get? b=some u->h'.get? b=some u)(hs:s.z<=p)(M:h'.get? p=some o)(O:∀v,o.data≠.cell v):Inv X ((p,o)::aa) σ H { s with heap:=h',toks:=t' }:=by
 have J:=I.kept (t':=t') k;refine J.pins_of λq hq=>?_;rcases vP hq with rfl|hq
 .exact⟨M,I.hok.fresh hs,ne_of_gt (vQ I.lt hs),I.nofs hs,O⟩
 .exact J.pin q (mY _ hq)
def LP (I:Inv X ((p,o)::aa) σ H s)(h0:X.s₀.z<=p)(hp:∀q∈X.pn++aa,q.1≠p)(k:∀b u,b≠p->s.heap.get? b=some u->h'.get? b=some u)(d:∃u,h'.get? p=some u)
  (new:aE X.prog X.w (upd H p ob) h' p ob):Inv X aa σ (upd H p ob) { s with heap:=h',toks:=t' }:=by
 have M:=I.pin (p,o) (mY _ mX);have hn:=M.2.1;have cs:=mf I;refine(iE I).step (g':=s.gens) (d':=s.drawn) (ch:=[p]) (λb hb=>?_) (λb u y y hc e y=>k b u (λz=>hc (by simp[z])) e) (λb u y y hc e y=>⟨u.slots,k b u (λz=>hc (by simp[z])) e⟩) (λb u hc y n=>by simp_all[af])
  (λb u hc e=>⟨u,k b u (λz=>hc (by simp[z])) e⟩) (λb xs e=>by rw[af (ar e hn)];exact e) (λb u w e=>by rw[af (ar e hn)];exact e) (λb q e=>by rw[af (ar e hn)];exact e) (λm hm=>?_) (λb u e=>?_) I.bare
 .have z:b=p:=by simpa using hb
  subst z;exact⟨.inr h0,M.2.2.1,cs,hp⟩
 .obtain⟨O,es,U,a,r⟩:=hm;exact⟨O,es,U,k _ O (λz=>M.2.2.1 z.symm) a,r⟩
 .by_cases z:b=p
  .simp_all[ae]
  .rw[af z]at e;refine(I.hok b u e).stay (λc v hc q=>k c v ?_ q) (λc q=>?_) (λc xs q=>?_) λc w xs q=>?_
   .lia
   .rw[af (ar q hn)];exact q
   .rw[af (ar q hn)];exact q
   .rw[af (ar q hn)];exact q
end
def rR (X:Cx)(A:Around)(σ:St)(M:Value)(B O:Hp)(U:D->Option D):Prop:=
 ∀(aa:AO)(s:Shared)(H N:Hp)(v:V)(u:Value)(d d':D),Inv X aa σ H s->au O H->au B N->au N H->Is X.K N v d->aA v u->U d=some d' ->
  wpAny (model X.prog X.w) A (call M [u]) (EP X aa σ λa H'=>∃N',Ext N N' H H'/\Is X.K N' a d') (λz z=>False) s
def JK (X:Cx)(A:Around)(e:Expr)(U:Env->D->Option D):Prop:=∀(aa:AO)(s:Shared)(σ:St)(H B:Hp)(ρ:Env)(Q:QV)(E:QV),Inv X aa σ H s->au B H->bQ X.K B σ ρ ->
 (∀O M s1,Inv X aa σ M s1->au H M->rR X A σ (.ref O) B M (U ρ)->Q (.ref O) s1)->wq X (eval e X.env) Q E s
section
variable {X:Cx}{A:Around}
@[simp] def Ql (M:LN)(O:FE):Env->D->Option D:=λρ d=>(O (some (d,false)::g9 0 M ρ)).map (·.1)
def Qm (hx:x∈ij)(L:xu X.K x)(hc:∀c P,tabIn X.K x=some (c,P)->X.env.code=.ref c)(hq:X.env.qual ++ "<lambda>" = qO x)
  (O:defaultsOf params X.env=([],[])) (S:LamSc X scope (cc scope.names X.env.cells []) y) (b:N'[0]? = some y) (cp:jc X N' scope (cc scope.names X.env.cells []) 1 fU) (g:A.frames=X.A.frames) (U:bB (k+1) A)
  (M:∀pm c h u,bindArgs (kla_fn "<lambda>" (qO x) params body scope (cc scope.names X.env.cells []) pm (.ref c) h) ⟨[u],[]⟩=pure [(y,u)])
  (hb:∀(f c:Addr)(s:Shared)(H:Hp),bB k (xw X N' scope (cc scope.names X.env.cells []) (qO x) A f c s H).A->JE (xw X N' scope (cc scope.names X.env.cells []) (qO x) A f c s H) body fb):JK X A (.Lambda params body scope pos) (Ql fU fb):=by
 intro aa s σ H B ρ Q E I i rep j;refine Hq hx L hc hq O S.clos I (rep.tb.mono i) λf l s1 m n o=>j f l s1 m n ?_;intro w s' H' N v u d d' a m1 m2 p iv r e;obtain⟨⟨z,b2⟩,q,e2⟩:=oY e;cases e2
 exact LO S b cp a (g.trans a.ok.frames) U.hd U.depth (o.mono m1) M (λf c s H=>hb f c s H (U.deeper _)) (rep.mono m2) p r iv q λC H2 N2 t i2 Z=>⟨N2,t,i2⟩
@[simp] noncomputable def TV (g:LD->OB):Env->D->Option D:=λz d=>(g [d]).map (·.1)
def NU (F:Fn X.prog X.w X.K X.mg X.base k x g)(h:bB k A)(i:A.frames=X.A.frames)(j:Gl X x)(O:aS x):JK X A (.Name x p) (TV g):=by
 intro aa s σ H B ρ Q E I t rep l;refine cX λG W=>?_;obtain⟨ad,fd,ps,b,hm,hk,hb⟩:=F.ex;apply W;clear W;refine fq I j hm ?_ O;refine l ad H s I (.refl H) ?_;intro U s' H' N v u d d' a m1 m2 m iv r e;obtain⟨⟨c,b2⟩,n,e2⟩:=oY e;cases e2
 have sp:PK _ g _ H' (λf H2=>∃N',Ext N N' H' H2/\Is _ N' f c) (λz z z=>False):=⟨N,[d],c,b2,⟨m,rep.tb.mono m2⟩,.cons iv .nil,n,λf H2 N2 o i2 z=>⟨N2,o,i2⟩⟩;have M:=a.env0;have q:=hb s' [u] a.kIn (by simpa using by have:=b.len _ _ _ _ sp;simp_all);refine wpAny_call (codeAny_mono (b.run A _ s' H' _ _ _ _ _ h ⟨i.trans M.frames,M.mod,M.bs,M.bsz,M.funs,M.frf,M.hok,M.bare⟩ q (.cons r .nil) sp) λr s' hq=>?_);cases r with
 |error e=>exact False.elim hq
 |ok fl=>
  cases fl with
  |ret w=>exact a.after hq
  |next=>exact False.elim hq
  |brk=>exact False.elim hq
  |cont=>exact False.elim hq
end
noncomputable def nG (f:D->Option D):LD->Option LD
 |[]=>some []
 |d::ds=>(f d).bind λx=>(nG f ds).map (x :: ·)
theorem iG:∀ {ds ks:LD},nG f ds=some ks->ks.length=ds.length
 |[],_,h=>by simp_all[nG]
 |d::ds,_,h=>by
  refine eX h λa h1 h=>eB h λr h2 h=>?_;subst h;simp[iG h2]
theorem p9:∀ {ds ks:LD},nG f ds=some ks->∀ {i:Nat}{d:D},ds[i]? = some d->∃k,ks[i]? = some k/\f d=some k
 |[],_,h,i,d,e=>by simp at e
 |d::ds,_,h,0,e,q=>by
  refine eX h λa h1 h=>eB h λr h2 h=>?_;grind
 |d::ds,_,h,i+1,e,q=>by
  refine eX h λa h1 h=>eB h λr h2 h=>?_;subst h;obtain⟨k,M,O⟩:=p9 h2 (by simpa using q);simp_all
structure KK (X:Cx)(A:Around)(kd:List D->Option (List (List At)))(ok:List (List At)->Bool):Prop where
 len:∀ {ds:List D}{ks:List (List At)},kd ds=some ks->ks.length=ds.length
 ask:∀ {aa:List (Addr×Obj)}{σ:St}{H:Hp}{s:Shared}(_:Inv X aa σ H s) {ys:List V}{ds:List D}{ks:List (List At)}{its:List Value},aD ys its->IsL X.K H ys ds->kd ds=some ks->ok ks=true->fB ks=true ->
  (0<ks.length->∀ {E:Value->Shared->Prop}{Q:SortKind->Shared->Prop},Q (tuples' true) s->wpAny (model X.prog X.w) A (keyKind' its.toArray) Q E s) /\
  ∀(i j:Nat)(C:Bool->Shared->Prop)(s1:Shared),i<ks.length->j<ks.length->s1=s->(∀s',s'=s->C (p0 (Ki ks) i j) s')->kas_ask X.prog X.w A (tuples' true) its i j C s1
def Qn:KK X A gp iD:=⟨me,λI z z z z r i e hf hc=>have hp:=nZ I r i e;⟨λhn z z=>Hk hp hf hn,LJ hc hp⟩⟩
section
variable {X:Cx}{aa:AO}{σ:St}{s:Shared}
theorem rS (r:aA x u){vs:LV}{us:LU}(h:aD vs us):aD (vs++[x]) (us++[u]):=h.append (.cons r .nil)
def ci:∀v,(Obj.mk c od (.seq its n) sl).data≠.cell v:=λv z=>by cases z
def zJ
  (I:Inv X ((a,seqObj "list" its.toArray n)::aa) σ H s) (h0:X.s₀.z<=a) (hp:∀q∈X.pn++aa,q.1≠a) (DV:rR X A σ qv B H kf) (D:aD vs its) (iv:IsL X.K B vs ds) (sB:au B H)
  (M:KK X A kd ok) (em:nG kf ds=some gw) (ek:kd gw=some ks) (hc:fB ks=true) (hf:ok ks=true) (Ke:its.length<64)
  (h:∀(p:Array Nat)(s':Shared)(H' N:Hp),nK its.length p->Up (Ki ks) p its.length->Inv X aa σ (upd H' a (.lst (p.toList.map λi=>vs.getD i .non))) s'->Ext B N H H'->H' a=none->P (.done (.ret .none)) s'):
  wpAny (model X.prog X.w) A (ksk_tree a qv false) P E s:=by
 have y:=I.pin (a,seqObj "list" its.toArray n) (mY _ mX)
 have DT:vs.length=its.length:=D.length
 have WQ:ds.length=vs.length:=iv.length.symm
 have hkd:gw.length=ds.length:=iG em
 have hks:ks.length=gw.length:=M.len ek
 have hz:its.length<=sizeLine:=by rw[sizeLine_eq];lia
 have Sm:H a=none:=y.2.1
 obtain⟨c,Sk⟩:∃c,(s.heap.update a (Obj.mapSeq λ_=>(#[]:AV))).get? a=some (seqObj "list" #[] c):=⟨_,get?_update_seq y.1 λ_=>#[]⟩
 have u1:=vW s.heap a (Obj.mapSeq λ_=>(#[]:AV))
 have I1:=eM (t':=s.toks) I h0 hp (λb u n q=>(u1.2 b n).trans q) Sk ci
 let h2:Heap:=(s.heap.update a (Obj.mapSeq λ_=>(#[]:AV))).push (seqObj "tuple" its.toArray 0)
 have F:Inv X ((a,seqObj "list" #[] c)::aa) σ H { s with heap:=h2 }:=I1.kept (t':=s.toks) λb u q=>vZ _ q
 let U:Addr:=h2.objs.size
 have I3:Inv X ((U,seqObj "list" #[] 0)::(a,seqObj "list" #[] c)::aa) σ H { s with heap:=h2.push (seqObj "list" #[] 0) }:=oh (s:={ s with heap:=h2 }) (t':=s.toks) F (λb u q=>vZ _ q) (vT _) (vY _ r4) ci
 have k0:X.s₀.z<=U:=F.sz
 have kp:∀q∈X.pn++((a,seqObj "list" #[] c)::aa),q.1≠U:=λq hq=>vS (vX (F.pin q hq).1)
 unfold ksk_tree
 refine wX (listItems_at y.1 r4 ?_)
 refine wX (listUpdate_at y.1 r4 ?_ (by simpa using hz) (uO _))
 refine wX (seqEpoch_at Sk r4 ?_)
 refine wX (wpAny_newTuple ?_ (by simp_all))
 refine wX (wpAny_newList ?_ (uO _))
 refine wpAny_holding ?_
 show wpAny (model X.prog X.w) A (ksk_rest a qv false its.toArray c (.ref U)) P E { s with heap:=h2.push (seqObj "list" #[] 0) }
 unfold ksk_rest
 refine wX (wpAny_rule ?_)
 rw[List.forIn_toArray]
 refine wX (ksk_fold (λi s'=>∃(H' N:Hp)(O:AV)(e:Nat)(ay:LV),Inv X ((U,seqObj "list" O e)::(a,seqObj "list" #[] c)::aa) σ H' s'/\Ext B N H H'/\aD ay O.toList/\IsL X.K N ay (gw.take i)) its 0 _
  ⟨H,B,#[],0,[],I3,.refl sB,.nil,by simpa using IsL.nil⟩ ?step ?done)
 case step=>
  rintro j u s' hu ⟨H',N,O,e,ay,J,f,rk,ik⟩
  simp only[Nat.zero_add]at ik |-
  have hj:j<its.length:=(vV hu).1
  obtain⟨d,hd⟩:∃d,ds[j]? = some d:=⟨_,vU N9⟩
  obtain⟨v,hv,WX⟩:=iv.get hd
  obtain⟨kd,XI,L⟩:=p9 em hd
  obtain⟨u',WY,ru⟩:=D.get hv
  rw[hu]at WY;cases WY
  have kl:O.size=j:=by
   have z1:=rk.length
   have z2:=ik.length
   simp_all<;>lia
  refine wX (wpAny_attempt (wpAny_mono (DV _ s' H' N v u d kd J f.hh f.bn f.nh (WX.mono f.bn) ru L) (λw R hw=>?_) λ_ _ hF=>hF.elim))
  obtain⟨v',S,J',rv',N',x2,i2⟩:=hw
  have k:=J'.pin (U,seqObj "list" O e) (mY _ mX)
  obtain⟨T,No⟩:∃T,(R.heap.update U (Obj.mapSeq (·.push w))).get? U=some (seqObj "list" (O.push w) T):=⟨_,get?_update_seq k.1 (·.push w)⟩
  have u2:=vW R.heap U (Obj.mapSeq (·.push w))
  refine wX (listUpdate_at k.1 r4 ?_ (by rw[sizeLine_eq];lia) (vR (le_of_eq (Array.size_push ..)) (by rw[sizeLine_eq];lia)))
  refine wY ⟨r4,S,N',O.push w,T,ay++[v'],eM (t':=R.toks) J' k0 kp (λb q n z=>(u2.2 b n).trans z) No ci,f.trans x2,?_,?_⟩
  .simp_all[rS]
  .rw[take_add_one,XI];exact(ik.mono x2.bn).append (.cons i2 .nil)
 case done=>
  rintro s' ⟨H',N,O,e,ay,J,f,rk,ik⟩
  have m:IsL X.K N ay gw:=by
   grind
  have k:=J.pin (U,seqObj "list" O e) (mY _ mX)
  have V:=J.pin (a,seqObj "list" #[] c) (mY _ (mZ _ mX))
  have Kl:H' a=none:=V.2.1
  have kz:O.toList.length=its.length:=by rw[<-rk.length,m.length];lia
  have o:O.size=its.length:=by simp_all
  refine wX (listItems_at k.1 r4 ?_)
  have t:=M.ask J rk (m.mono f.nh) ek hf hc
  -- the end of the sort,for a permutation p
  have W:∀(st:SortSt)(p:Array Nat),arrOf st=p.map (kas_item (O.toList.toArray.zip its.toArray))->failedOf st=none->nK its.length p->Up (Ki ks) p its.length ->
    wpAny (model X.prog X.w) A (ksk_tail a false c (.ref U) st) P E s':=λst p ea ef ap up=>by
   have eo:(arrOf st).map (·.2)=List.toArray (p.toList.map λi=>its.getD i Value.none):=kat_snds kz ea
   have OG:∀i∈p.toList,i<vs.length:=λi hi=>by
    have:=mem_range.mp (ap.perm.mem_iff.mp hi)
    simp_all
   obtain⟨c3,Y⟩:∃c3,(s'.heap.update U (Obj.mapSeq λ_=>(#[]:AV))).get? U=some (seqObj "list" #[] c3):=⟨_,get?_update_seq k.1 λ_=>#[]⟩
   have u3:=vW s'.heap U (Obj.mapSeq λ_=>(#[]:AV))
   have J3:=iE (eM (t':=s'.toks) J k0 kp (λb q n z=>(u3.2 b n).trans z) Y ci)
   have g:=J3.pin (a,seqObj "list" #[] c) (mY _ mX)
   obtain⟨Z,x⟩:∃Z,((s'.heap.update U (Obj.mapSeq λ_=>(#[]:AV))).update a (Obj.mapSeq λ_=>(arrOf st).map (·.2))).get? a=some (seqObj "list" ((arrOf st).map (·.2)) Z):=⟨_,get?_update_seq g.1 λ_=>(arrOf st).map (·.2)⟩
   have u4:=vW (s'.heap.update U (Obj.mapSeq λ_=>(#[]:AV))) a (Obj.mapSeq λ_=>(arrOf st).map (·.2))
   have so:((arrOf st).map (·.2)).size=its.length:=by rw[eo];simp only[vH,vI,vG,ap.size]
   unfold ksk_tail
   try dsimp only
   refine wX (listUpdate_at k.1 r4 ?_ (by rw[o,sizeLine_eq];lia) (uO _))
   refine wX (wpAny_letGo ?_)
   refine wX (seqEpoch_at g.1 r4 ?_)
   refine wX (listUpdate_at g.1 r4 ?_ (uO _) N9)
   rw[ef]
   simp only[bne_self_eq_false,uW,if_false]
   refine wY (h p _ H' N ap up (LP (s:={ s' with heap:=s'.heap.update U (Obj.mapSeq λ_=>(#[]:AV)) }) (t':=s'.toks) J3 h0 hp (λb q n z=>(u4.2 b n).trans z) ⟨_,x⟩ ?_) f Kl)
   refine⟨by rw[vI,vG,ap.size];exact hz,p.toList.map λi=>its.getD i Value.none,Z,rP D p.toList OG,?_⟩
   rw[<-eo];exact x
  unfold ksk_end
  try dsimp only
  simp only[uW,if_false]
  have ekA:O=O.toList.toArray:=X9
  by_cases l:its.toArray.size<2
  .rw[if_pos l,if_pos l]
   refine wX (wY ?_)
   rw[StateT.run_pure]
   refine wX (wY ?_)
   have hsm:its.length<2:=by simpa using l
   refine W _ (List.toArray (List.range its.length)) ?_ r4 ⟨X9,X9⟩ ?_
   .show O.zip its.toArray=_
    have:=kas_range (O.toList.toArray.zip its.toArray)
    rw[show(O.toList.toArray.zip its.toArray).size=its.length by simp[o]]at this
    rw[this]
   .intro i j hij hj
    grind
  .rw[if_neg l,if_neg l]
   have aaf:2<=its.length:=by simp at l;lia
   rw[ekA]
   refine wX (t.1 N9 ?_)
   obtain⟨p,r1,r2,r3⟩:=Hh (n:=its.length) (rk:=Ki ks) N9
   refine wX (wpAny_mono (kat_run (E:=E) (ks:=O.toList) (vs:=its) (κ:=tuples' true) (s:=s') (Q:=λFM s2=>s2=s'/\arrOf FM=p.map (kas_item (O.toList.toArray.zip its.toArray))/\failedOf FM=none)
    (G:=λp' s2=>p'=p/\s2=s') kz aaf Ke (λp' FM s2 _ e2 e3 e4=>by
     lia) (Run.wp (λs2=>s2=s') (λi j C s2 hi hj e hC=>t.2 i j C s2 N9 N9 e hC) r1 r4 λs2 e=>⟨r4,e⟩)) (λr s2 hr=>?_) λ_ _ z=>z)
   grind
end
theorem xx {α M:Type}{f:α->M}:∀ {l:List α},(l.map f).Nodup->l.Nodup
 |[],_=>nodup_nil
 |a::l,h=>by
  rw[uZ,nodup_cons]at h;exact nodup_cons.mpr ⟨λz=>h.1 (mem_map.mpr ⟨a,z,r4⟩),xx h.2⟩
def iH (ks:List (List At))(ds:LD):LD:=(kZ (λp:List At×D=>fg p.1) (ks.zip ds)).map (·.2)
def Hr {α U:Type}d e:∀ {O:List α}{M:List U},O.length=M.length->(List.range M.length).map (λi=>(O.getD i d,M.getD i e))=O.zip M:=λ{O M} h=>by
 apply ext_getElem?;intro i;by_cases hi:i<M.length
 .simp_all
 .simp[hi,h]
theorem LQ {α U:Type}{M:List α}{O:List U}(nd:M.Nodup){a:α}{b c:U}(h1:(a,b)∈M.zip O)(h2:(a,c)∈M.zip O):b=c:=by
 obtain⟨i,hi⟩:=List.mem_iff_getElem?.mp h1;obtain⟨j,hj⟩:=List.mem_iff_getElem?.mp h2;grind[List.getElem_inj]
def zK(hl:ks.length=ds.length)(hc:fB ks=true)(nd:ks.Nodup)(ap:nK ds.length p)(O:Up (Ki ks) p ds.length):p.toList.map (λi=>ds.getD i .non)=iH ks ds:=by
 unfold iH;have e:p.toList.map (λi=>(ks.getD i [],ds.getD i .non))=kZ (λp:List At×D=>fg p.1) (ks.zip ds):=by
  apply xl
  .intro x hx y hy e;have mx:=(of_mem_zip hx).1;have f:=(of_mem_zip hy).1;grind[EJ,LQ]
  .have:=ap.perm.map (λi=>(ks.getD i [],ds.getD i D.non));rw[Hr [] D.non hl]at this;exact this
  .rw[List.pairwise_iff_getElem];intro i j hi hj M;have hsz:=ap.size;have U:i<p.size:=by simpa using hi
   have a:j<p.size:=by simpa using hj
   have:=O i j (le_of_lt M) N9;unfold bA Ki at this;have b:p.getD i 0=p[i]:=by simp_all
   have c:p.getD j 0=p[j]:=by simp_all
   have g:=ap.lt (k:=j) N9;have d:ks.getD (p.getD j 0) []∈ks:=by
    simp_all
   simp only[List.getElem_map,Array.getElem_toList];unfold Kh;rw[<-b,<-c];exact λz=>by
    have:=Bc (cs:=ks.map fg) (mem_map.mpr ⟨_,d,r4⟩) z;lia
 rw[<-e,map_map];rfl
noncomputable def TW:List At->List At->Bool
 |.i _::xs,.i _::ys=>TW xs ys
 |.s _::xs,.s _::ys=>TW xs ys
 |[],[]=>true
 |_,_=>false
theorem u9 {k x y:List At}(h:TW k x=true)(g:TW k y=true):(aZ x y).isSome=true:=by
 induction k generalizing x y with
 |nil=>cases x<;>cases y<;>first|rfl|(cases h;done)|(cases g;done)
 |cons a k n=>
  cases a<;>(rcases x with _|⟨_|_,x⟩<;>try (cases h;done))<;>(rcases y with _|⟨_|_,y⟩<;>try (cases g;done))
  all_goals (change (ite _ (aZ x y) _).isSome=true;split;exact n h g;rfl)
noncomputable def Hs:List (List At)->Bool
 |[]=>true
 |k::r=>(k::r).all (TW k) || fB (k::r)
theorem LR:∀ {ks:List (List At)},Hs ks=true->fB ks=true
 |[],_=>r4
 |k::r,h=>by
  rcases Bool.or_eq_true_iff.mp h with h|h
  .exact all_eq_true.mpr λx hx=>all_eq_true.mpr λy hy=>u9 (uS h x hx) (uS h y hy)
  .exact h
noncomputable def Sa:List LI->Bool
 |a::b::r=>decide (a<b) && Sa (b::r)
 |_=>true
theorem xy:∀ {l:List LI},Sa l=true->l.Pairwise (· < ·)
 |[],_=>.nil
 |[a],_=>List.pairwise_singleton _ _
 |a::b::r,h=>by
  unfold Sa at h;rw[vD]at h;refine .cons (λc hc=>?_) (xy h.2);rcases vP hc with rfl|hc
  .exact (mw h.1)
  .exact lt_trans (mw h.1) (List.rel_of_pairwise_cons (xy h.2) hc)
def EN(h:Sa (kZ id l)=true):l.Nodup:=((gL (f:=id) l).nodup_iff).mp ((xy h).imp λq e=>by rw[e]at q;exact lt_irrefl _ q)
@[simp] def zL (kd:LD->Option (List (List At)))(ok:List (List At)->Bool)(f:FE)(O:Env->D->Option D):FE:=λρ=>(f ρ).bind λx=>match x.1 with
 |.lst ds=>(nG (O ρ) ds).bind λM=>(kd M).bind λks=>if ks.length<64/\Hs ks=true/\ok ks=true/\Sa (kZ id (ks.map fg))=true then some (.lst (iH ks ds),true)else none
 |_=>none
@[simp] abbrev Qo:FE->(Env->D->Option D)->FE:=zL gp iD
noncomputable def YB (g:(D->Option D)->LD->OB)(f:FE)(M:Env->D->Option D):FE:=λρ=>(f ρ).bind λx=>match x.1 with
 |.lst ds=>g (M ρ) ds
 |_=>none
section
variable {X:Cx}{e ke:Expr}{p pos kp:Pos}{kd:LD->Option (List (List At))}{ok:List (List At)->Bool}
def EO {s2:Shared}{tk:Nat}{h1:Heap}{Q:V->Hp->Prop}(M:KK X X.A.in1.in1 kd ok)(U:Inv X aa σ H2 { s2 with heap:=h1,toks:=tk })(l:rR X X.A.in1.in1 σ (.ref qa) N H2 kf)(g:aD vs its)(a:IsL X.K N vs ds)(c:Ext B N H H2)(h:nG kf ds=some gw)(ek:kd gw=some ks)
  (hh:ks.length<64/\fB ks=true/\ok ks=true/\(ks.map fg).Nodup) (q:Fin X.K B H (.lst (iH ks ds)) true Q):
  wpAny (model X.prog X.w) X.A.in1 (do let _ <-holding [.ref h1.objs.size] (call (.builtin "list.sort") [.ref h1.objs.size] [(("key" : Str),.ref qa)]);ret (.ref h1.objs.size)) (λdZ s'=>∃v,dZ=.done (.ret v)/\EP X aa σ Q v s') X.xe { s2 with heap:=h1.push (seqObj "list" its.toArray 0),toks:=tk }:=by
 obtain⟨t,hc,hf,nd⟩:=hh;have x:vs.length=its.length:=g.length;have y:ds.length=vs.length:=a.length.symm;have m:gw.length=ds.length:=iG h;have n:ks.length=gw.length:=M.len ek;have j:Inv X ((h1.objs.size,seqObj "list" its.toArray 0)::aa) σ H2 _:=
  oh (s:={ s2 with heap:=h1,toks:=tk }) (t':=tk) U (λb u q=>vZ _ q) (vT _) (vY _ r4) ci
 have r:=j.pin _ (mY _ mX);refine wX (wpAny_holding (wpAny_call_entry_kw slot_list_sort ⟨_,r.1,r4⟩ entry_list_sort ?_ (ksk_l1 _ _)));rw[ksk_t1];refine zJ j U.sz (λq hq=>vS (vX (U.pin q hq).1)) l g a c.nh M h ek hc hf N9 λpm s' H' N' ap k J O hn=>⟨_,r4,wY ⟨_,r4,?_⟩⟩;have hpl:its.length=ds.length:=N9
 rw[hpl]at ap k;have d:=xq (a.mono O.bn) pm.toList λi hi=>mem_range.mp (ap.perm.mem_iff.mp hi);rw[zK N9 hc (xx nd) ap k]at d;have f:=Ext.laid (o:=.lst (pm.toList.map λi=>vs.getD i .non)) O.nh hn;exact⟨.ref h1.objs.size,_,J,r4,q _ _ _ ((c.trans O).trans f) (.lst (dj.of ae) (d.mono f.bn)) λz=>⟨_,_,_,r4,r4,(c.trans O).hh.free hn,ae,d.mono f.bn⟩⟩
set_option tactic.hygienic true in
def Ht(bt:bootBuiltins ns=some (.builtin nm))(n1:ns ≠ "__name__")(n2:aS ns)(hm:X.mg ns=none)(he:JE X e f)(hk:JK X A ke a)(m:Gl X ns)
  (M:ce e X.env)
  (U:∀ {aa σ H2 s2 j} {B N H:Hp}{a:D->Option D}{l vs its ds d b Q},Inv X aa σ H2 s2->rR X A σ (.ref j) N H2 a->dj X.K N l vs->IsL X.K N vs ds->aD vs its->s2.heap.IsList l its.toArray->Ext B N H H2->g a ds=some (d,b)->Fin X.K B H d b Q->wq X (call (.builtin nm) [.ref l] [(("key" : Str),.ref j)]) (EP X aa σ Q) X.xe s2):
  JE X (.Call (.Name ns p) [e] [⟨some "key",ke,kp⟩] pos) (YB g f a):=by
 intro aa s σ H Q I h;refine cX λG W=>?_;obtain⟨B,ρ,d,b,n,rep,c,q⟩:=h;obtain⟨⟨xd,C⟩,ex,c⟩:=oX c;apply W;cases xd<;>try (cases c;done)
 rename_i ds;refine wpAny_Call_Name_kw (dn I m hm bt ?_ n1 n2);refine callWith_kw (aV ((av he aN M) pos aa s σ H (λvs i=>∃v N,vs=[v]/\Ext B N H i/\Is X.K N v (.lst ds)) I ⟨B,ρ,_,_,n,rep,ex,λv i N O i1 _=>⟨v,N,r4,O,i1⟩⟩) λus s1 o=>?_) (by rw[M];rfl) (by rw[M];rfl) r4 r4;obtain⟨r,i,t,w,v,N,rfl,O,i1⟩:=o;obtain⟨u,rfl,ru⟩:=cZ w;refine kws_cons (hk aa s1 σ i N ρ _ _ t O.nh (rep.mono O.bn) λj H2 s2 k m2 x=>kws_nil ?_);cases i1
 rename_i l vs hq y;cases ru
 obtain⟨its,z,pl,_⟩:=k.list ((O.nh.trans m2).seq hq);exact U k x hq y z pl.isList (O.trans (.grow O.nh m2)) c q
def NV (M:KK X X.A.in1.in1 kd ok){f:FE}{c:Env->D->Option D}(hm:X.mg "sorted" = none)(he:JE X e f)(hk:JK X X.A.in1.in1 ke c)(i:Gl X "sorted")
  (a:ce e X.env):
  JE X (.Call (.Name "sorted" p) [e] [⟨some "key",ke,kp⟩] pos) (zL kd ok f c):=by
 refine Ht (nm:="sorted") (g:=λk ds=>(nG k ds).bind λU=>(kd U).bind λks=>if ks.length<64/\Hs ks=true/\ok ks=true/\Sa (kZ id (ks.map fg))=true then some (.lst (iH ks ds),true)else none) r4 Z9 Z9 hm he hk i a λ{aa σ H2 s2 qa B N H k l vs its ds d b Q} I2 DV hq il rv pl x1 O q=>?_;refine eX O λU h O=>?_;refine eX O λks ek O=>?_;split at O
 .rename_i hh;cases O
  have hz:its.length<=sizeLine:=by rw[<-rv.length,il.length,<-iG h,<-M.len ek,sizeLine_eq];lia
  refine call_function_entry_kw kind_sorted plain_sorted entry_sorted (ksk_s1 _ _) ?_;unfold Builtin.«sorted»;refine wX (m:=checkCount "sorted" 1 1 _) (wY (wX (collect_list pl (wX (wpAny_newList ?_ hz)) (by simpa using hz))));exact EO (tk:=s2.toks) M (I2.kept λb o q=>(Heap.get?_update_ne _ _ _ _ (vS (vX q))).trans (vZ _ q)) DV rv il x1 h ek ⟨hh.1,LR hh.2.1,hh.2.2.1,EN hh.2.2.2⟩ q
 .cases O
end
noncomputable def cmP {f:String->CmpOp->Builtin}(_:f "__lt__" .Lt=Builtin.«tuple.__lt__»):=f
def cmF:String->CmpOp->Builtin:=cmP r4
section
variable {prog:Program}{w:World}{A:Around}{E:QV}{s:Shared}{op:CmpOp}
def eK.type (h:eK s.heap xs v):s.TypeIs v "tuple":=by
 obtain⟨a,o,its,n,rfl,M,hc,z⟩:=h;exact⟨o,M,hc⟩
inductive GeW (prog:Program)(w:World)(A:Around)(s:Shared)(op:CmpOp)(dZ r:Bool):List (Value×Value)->Prop
 |nil (h:dZ=r):GeW prog w A s op dZ r []
 |eq {u v:Value}{l:List (Value×Value)}(h:SeqAt.EqAt A s u v true) (t:GeW prog w A s op dZ r l):GeW prog w A s op dZ r ((u,v)::l)
 |ne {u v:Value}{l:List (Value×Value)}(h:SeqAt.EqAt A s u v false) (t:∀(Q E:Value->Shared->Prop),Q (.bool r) s->wpAny (model prog w) A (richCompare op u v) Q E s):GeW prog w A s op dZ r ((u,v)::l)
def LW {nm:String}(O:s.TypeIs (.ref b) "tuple")(U:s.heap.get? a=some oa)(c:oa.data=.seq its na)(d:s.heap.get? b=some ob)(g:ob.data=.seq FD nb)
  (W:GeW prog w A s op dZ r (its.toList.zip FD.toList)) (hz:Builtin.Tuple.tupleCompareSizes op its.size FD.size=.bool dZ) (e:op=.Lt\/op=.Gt\/op=.GtE) (q:P (.done (.ret (.bool r))) s):wpAny (model prog w) A (cmF nm op ⟨[.ref a,.ref b],[]⟩) P E s:=by
 show wpAny _ _ (isInstance _ _>>=_) _ _ s;refine wX (wpAny_isInstance O isSubtype_tuple_tuple ?_);refine wX (wpAny_tupleItemsOf U c ?_);refine wX (wpAny_tupleItemsOf d g ?_);refine wX ?_;refine wpAny_forIn_list _ (λbu z s'=>z.1=none/\s'=s/\GeW _ w A s op _ r bu) _ ?_ ?_ _ _ ⟨r4,r4,W⟩
 .rintro⟨u,v⟩ bu z s' ⟨hz,rfl,W⟩;cases W with
  |eq h t=>
   refine wX (h _ _ _ _ ?_);simp_all[wY]
  |ne h t=>
   refine wX (h _ _ _ _ ?_);have t:=t (λv M=>v=.bool r/\M=s') E ⟨r4,r4⟩;rcases e with rfl|rfl|rfl<;>exact wX (wpAny_rule (wX (wpAny_mono t (λv M i=>by obtain⟨rfl,rfl⟩:=i;exact wX (wY (wY (wY q)))) λy y z=>z)))
 .rintro⟨j,k⟩ s' ⟨f,rfl,W⟩;subst f;refine wY ?_;cases W with
  |nil h=>
   simp_all
structure CmR (prog:Program)(w:World)(A:Around)(s:Shared)(op:CmpOp)(R:List At->List At->Bool->Prop)(fl:Nat->Nat->Bool):Prop where
 ei:∀ {a xs ys r},R (.i a::xs) (.i a::ys) r->R xs ys r
 es:∀ {a xs ys r},R (.s a::xs) (.s a::ys) r->R xs ys r
 ni:∀ {a c xs ys r},a≠c->R (.i a::xs) (.i c::ys) r->∀t u (Q E:Value->Shared->Prop),Q (.bool r) s->wpAny (model prog w) A (richCompare op (.int a t) (.int c u)) Q E s
 ns:∀ {a c xs ys r},a≠c->R (.s a::xs) (.s c::ys) r->∀t u (Q E:Value->Shared->Prop),Q (.bool r) s->wpAny (model prog w) A (richCompare op (.str a t) (.str c u)) Q E s
 mx:∀ {a c xs ys r},¬R (.i a::xs) (.s c::ys) r/\¬R (.s c::xs) (.i a::ys) r
 en:∀ {xs r},(R [] xs r->fl 0 xs.length=r)/\(R xs [] r->fl xs.length 0=r)
 fs:∀ {m n},fl (m+1) (n+1)=fl m n
def Hu (C:CmR prog w A s op R fl)(xs ys:List At)(its M:LU)(U:Paired yC xs its)(b:Paired yC ys M)(h:R xs ys r):GeW prog w A s op (fl xs.length ys.length) r (its.zip M):=by
 induction U generalizing ys M with
 |nil=>exact .nil (C.en.1 h)
 |@cons x v xs its U f d=>
  cases b with
  |nil=>exact .nil (C.en.2 h)
  |@cons y u ys M b O=>
   cases x with
   |i a=>
    cases y with
    |s _=>exact absurd h C.mx.1
    |i c=>
     obtain⟨t,rfl⟩:=U;obtain⟨u,rfl⟩:=b;have he:=SeqAt.EqAt.int_int (A:=A) (s:=s) a t c u;rw[vE,vE,C.fs];by_cases e:a=c
     .subst e;rw[show(a == a)=true by simp]at he;exact .eq he (d ys M O (C.ei h))
     .rw[show(a == c)=false by simp[e]]at he;exact .ne he (C.ni e h t u)
   |s a=>
    cases y with
    |i _=>exact absurd h C.mx.2
    |s c=>
     obtain⟨t,rfl⟩:=U;obtain⟨u,rfl⟩:=b;have he:=SeqAt.EqAt.str_str (A:=A) (s:=s) a t c u;rw[vE,vE,C.fs];by_cases e:a=c
     .subst e;rw[show(a == a)=true by simp]at he;exact .eq he (d ys M O (C.es h))
     .rw[show(a == c)=false by simp[e]]at he;exact .ne he (C.ns e h t u)
def TX:CmR prog w A s .Lt (λxs ys r=>aZ xs ys=some r) (λm n=>decide (m<n)) where
 ei h:=by rwa [aZ,if_pos r4]at h
 es h:=by rwa [aZ,if_pos r4]at h
 ni e h _ _ _ _ q:=by rw[aZ,if_neg e]at h;cases h;exact PyProof.Rows.lt_int q
 ns e h _ _ _ _ q:=by rw[aZ,if_neg e]at h;cases h;exact PySem.P.lt_str q
 mx:=by simp[aZ]
 en:=λ{xs}=>by cases xs<;>simp[aZ]
 fs:=X9
def TY:CmR prog w A s .Gt (λxs ys r=>aZ ys xs=some r) (λm n=>decide (n<m)) where
 ei h:=by rwa [aZ,if_pos r4]at h
 es h:=by rwa [aZ,if_pos r4]at h
 ni e h _ _ _ _ q:=by rw[aZ,if_neg (Ne.symm e)]at h;cases h;exact PyProof.Rows.gt_int q
 ns e h _ _ _ _ q:=by rw[aZ,if_neg (Ne.symm e)]at h;cases h;exact PySem.P.gt_str q
 mx:=by simp[aZ]
 en:=λ{xs}=>by cases xs<;>simp[aZ]
 fs:=X9
def Hv (hx:eK s.heap xs (.ref a)):∃o its n,s.heap.get? a=some o/\o.data=.seq its n/\Paired yC xs its.toList/\xs.length=its.size:=by
 refine cX λG g=>?_;obtain⟨O,o,its,n,e,M,hc,hd,p⟩:=hx;apply g;cases e
 exact⟨o,its,n,M,hd,p,dw p⟩
def NW(C:CmR prog w A s op R fl)(hz:∀m n,Builtin.Tuple.tupleCompareSizes op m n=.bool (fl m n))(M:op=.Lt\/op=.Gt\/op=.GtE)(hx:eK s.heap xs (.ref a))(hy:eK s.heap ys (.ref b))(h:R xs ys r)(q:P (.done (.ret (.bool r))) s):wpAny (model prog w) A (cmF nm op ⟨[.ref a,.ref b],[]⟩) P E s:=by
 refine cX λG g=>?_;obtain⟨z,z,z,c,hd,p,l1⟩:=Hv hx;obtain⟨z,z,z,O,U,d,l2⟩:=Hv hy;apply g;exact LW hy.type c hd O U (Hu C _ _ _ _ p d h) (by rw[l1,l2];exact hz _ _) M q
def Hw (hx:eK s.heap xs x)(hy:eK s.heap ys y)(h:aZ xs ys=some r)(hu:A.units<cLine)(q:Q (.bool r) s):wpAny (model prog w) A (richCompare .Lt x y) Q E s:=by
 have tx:=hx.type;have ty:=hy.type;obtain⟨a,z,z,z,rfl,z⟩:=id hx;obtain⟨b,z,z,z,rfl,z⟩:=id hy;exact wpAny_richCompare_same_room tx ty slot_tuple_lt (wpAny_call_entry slot_tuple_lt tx PySem.F.entry_tuple_lt (NW TX (λz z=>r4) (.inl r4) hx hy h ⟨_,r4,(λe=>nomatch e),q⟩) (PySem.F.args_tuple_lt_2 _ _)) hu
def TZ (hx:eK s.heap xs x)(hy:eK s.heap ys y)(h:aZ ys xs=some r)(hu:A.units<cLine)(q:Q (.bool r) s):wpAny (model prog w) A (richCompare .Gt x y) Q E s:=by
 have tx:=hx.type;have ty:=hy.type;obtain⟨a,z,z,z,rfl,z⟩:=id hx;obtain⟨b,z,z,z,rfl,z⟩:=id hy;exact wpAny_richCompare_same_room tx ty slot_tuple_gt (wpAny_call_entry slot_tuple_gt tx PySem.F.entry_tuple_gt (NW TY (λz z=>r4) (.inr (.inl r4)) hx hy h ⟨_,r4,(λe=>nomatch e),q⟩) (PySem.F.args_tuple_gt_2 _ _)) hu
end
def Bh:List At×D->List (List At×D)->D
 |b,[]=>b.2
 |b,x::r=>if aZ b.1 x.1=some true then Bh x r else Bh b r
def Bi:List At×D->List (List At×D)->D
 |b,[]=>b.2
 |b,x::r=>if aZ x.1 b.1=some true then Bi x r else Bi b r
noncomputable def mmP {f:String->CmpOp->Builtin}(_:f "max" .Gt=Builtin.«max.loop»):=f
def mmL:String->CmpOp->Builtin:=mmP r4
noncomputable def mmQ {f:String->Builtin}(_:f "max" = Builtin.«max»):=f
def mmF:String->Builtin:=mmQ r4
structure MM (nm lp:String)(ns:Str)(op:CmpOp)(lt:List At->List At->Option Bool)(go:List At×D->List (List At×D)->D):Prop where
 hn:(toString nm++toString ".loop" : String)=lp
 en:entryFor table lp=some (mmL nm op)
 pl:plainId lp=true
 k2:builtinKind nm=none
 p2:plainId nm=true
 e2:entryFor table nm=some (mmF nm)
 ka:∀a v:Value,argsOk nm ⟨[a],[(Str.ofString "key",v)]⟩
 bt:bootBuiltins ns=some (.builtin nm)
 n1:ns ≠ "__name__"
 n2:aS ns
 g0:∀b,go b []=b.2
 g1:∀b x r,go b (x::r)=if lt b.1 x.1=some true then go x r else go b r
 cg:∀ {ks:List (List At)},fB ks=true->∀ {a b},a∈ks->b∈ks->∃r,lt a b=some r
 rc:∀ {prog:Program}{w:World}{A:Around}{E:Value->Shared->Prop}{s:Shared}{xs ys:List At}{x y:Value}{r:Bool}{Q:Value->Shared->Prop},eK s.heap xs x->eK s.heap ys y->lt ys xs=some r->A.units<cLine->Q (.bool r) s->wpAny (model prog w) A (richCompare op x y) Q E s
def mmx:MM "max" "max.loop" "max" .Gt aZ Bh:=
 ⟨Z9,PySem.F.entry_max_loop,PySem.F.plain_max_loop,PySem.F.kind_max,PySem.F.plain_max,PySem.F.entry_max,λz z=>by kernel_rfl,r4,Z9,Z9,λz=>r4,λz z z=>r4,λh z z a b=>⟨_,dW h a b⟩,TZ⟩
def mmn:MM "min" "min.loop" "min" .Lt (λa b=>aZ b a) Bi:=
 ⟨Z9,PySem.F.entry_min_loop,PySem.F.plain_min_loop,PySem.F.kind_min,PySem.F.plain_min,PySem.F.entry_min,λz z=>by kernel_rfl,r4,Z9,Z9,λz=>r4,λz z z=>r4,λh z z a b=>⟨_,dW h b a⟩,Hw⟩
section
variable {X:Cx}{aa:AO}{σ:St}
def zM (J:Inv X ((a1,o1)::(a2,M)::aa) σ H' s'):Inv X ((a2,M)::(a1,o1)::aa) σ H' s':=
 J.pins_of λq hq=>J.pin q (by
  grind)
def pA (hp:∀q∈X.pn++aa,q.1≠a)(h:S≠a):∀q∈X.pn++((S,o)::aa),q.1≠a:=λq hq=>by
 grind
def oi (I:Inv X aa σ H s)(r:aA v u)(i:Is X.K H v d)(e:EK d=some k):eK s.heap k u:=by
 have:=nZ I (.cons r .nil) (.cons i .nil) (by simp [gp,e];rfl);cases this;assumption
inductive MK (X:Cx)(aa:List (Addr×Obj))(σ:St)(S It l:Addr)(o:Obj)(j:Nat)(N H:Hp)(y:List At×D)(u ku:Value)(s:Shared):Prop
 |mk (H2 N2:Hp) (v kv:V) (kd:D) (oI:Obj) (J:Inv X ((S,o)::(It,oI)::aa) σ H2 s) (Kd:s.heap.IsListIter It l (j+1)) (x:Ext N N2 H H2) (ru:aA v u) (iv:Is X.K N2 v y.2) (rk:aA kv ku) (ik:Is X.K N2 kv kd) (ek:EK kd=some y.1)
def Hx {E:QV}{It:Addr}(hh:X.A.handled=none)(p:rR X X.A.in1 σ (.ref qa) B H1 kf)(hq:dj X.K B l vs)(iv:IsL X.K B vs ds)(t:nG kf ds=some gw)(ek:gp gw=some ks)(x:X.s₀.z<=It)(C:∀q∈X.pn++((S,o)::aa),q.1≠It)
  (D:l≠It) (hz:(ks.zip ds)[j]? = some y) (I:Inv X ((S,o)::(It,oI)::aa) σ H s) (Kd:s.heap.IsListIter It l j) (M:Ext B N H1 H):
  wpAny (model X.prog X.w) X.A.in1 (pyNext (.ref It)) (λr s1=>∃u,r=some u/\wpAny (model X.prog X.w) X.A.in1 (call (.ref qa) [u]) (MK X aa σ S It l o j N H y u) (λZ Z=>False) s1) E s:=by
 refine cX λW Y=>?_;obtain⟨its,F,pl,Z⟩:=I.list ((M.bn.trans M.nh).seq hq);obtain⟨hk,hd⟩:=getElem?_zip_eq_some.mp hz;obtain⟨v,G,U⟩:=iv.get hd;obtain⟨kd,g,d⟩:=p9 t hd;obtain⟨u,hu,ru⟩:=F.get G;apply Y;have J:=by
  have:=rO ek (i:=j) (vV g).1;rw[getD_eq_getElem?_getD,g,getD_eq_getElem?_getD,hk]at this;exact this
 refine(Walks.list (A:=X.A.in1) hh It l D _).item j _ _ _ (by simpa using(vV hu).1) ⟨Kd,pl.isList⟩ λu' h' R L a P=>?_;have h:=by simpa using L
 rw[hu]at h;cases h;obtain⟨O,f,Q,c⟩:=id a.1;exact⟨u,r4,aV (p _ _ H N v u y.2 kd (zM (eM (zM I) x C (λb o n e=>P b o (by simpa using n) e) f (λv z=>by rw[c]at z;cases z))) M.hh M.bn M.nh (U.mono M.bn) ru d) λku s2 ⟨kv,H2,k,rk,N2,m,ik⟩=>
  ⟨H2,N2,v,kv,kd,O,k,⟨O,(k.pin (It,O) (mY _ (mZ _ mX))).1,Q,c⟩,m,ru,U.mono (M.bn.trans m.bn),rk,ik,J⟩⟩
def LX {nm lp:String}{ns:Str}{op:CmpOp}{lt:List At->List At->Option Bool}{go:List At×D->List (List At×D)->D}(M:MM nm lp ns op lt go){G:Value}{l S It:Addr}{vs:LV}{ds Z:LD}{ks:List (List At)}{B J:Hp}{kf:D->Option D}{d0:D}{R:Result->Shared->Prop}(hh:X.A.handled=none)(hu:X.A.in1.units<cLine)(DV:rR X X.A.in1 σ G B J kf)(L:∃a,G=.ref a)(hq:dj X.K B l vs)(iv:IsL X.K B vs ds)
  (em:nG kf ds=some Z) (ek:gp Z=some ks) (hc:fB ks=true) (S0:X.s₀.z<=S) (I0:X.s₀.z<=It) (WZ:∀q∈X.pn++aa,q.1≠S) (RK:∀q∈X.pn++aa,q.1≠It) (E:S≠It) (Xa:S≠l) (RL:l≠It)
  (hR:∀(s':Shared)(H' N:Hp)(v:V)(u:Value),Inv X aa σ H' s'->Ext B N J H'->aA v u->Is X.K N v d0->R (.ok (.ret u)) s'):
  ∀(r j:Nat)(s:Shared)(H N:Hp)(U O:Value)(i p:V)(k t:D)(m:List At)(c:Nat)(oI:Obj),vs.length - j=r->j<=vs.length->Inv X ((S,seqObj "list" #[U,O] c)::(It,oI)::aa) σ H s->s.heap.IsListIter It l j->Ext B N J H ->
   aA i U->Is X.K N i k->aA p O->Is X.K N p t->EK t=some m->m∈ks->go (m,k) ((ks.zip ds).drop j)=d0 ->
   codeAny (model X.prog X.w) X.A (.builtin lp ⟨[.ref It,G,.ref S],[]⟩) R s:=by
 obtain⟨qa,rfl⟩:=L;intro r;induction r with
 |zero=>
  intro j s H N U O i p k t m c oI hr hj I Kd d P i1 Q i2 f mk hd;have T:=I.pin (S,seqObj "list" #[U,O] c) (mY _ mX);have sB:au B H:=d.bn.trans d.nh;refine I.lisE (sB.seq hq) λits rv pl _=>?_;have hl:=pl.isList;have W:=Walks.list (prog:=X.prog) (w:=X.w) (A:=X.A.in1) hh It l RL its.toArray;have hsz:its.toArray.size=its.length:=vH ..;have DT:vs.length=its.length:=rv.length;have WQ:ds.length=its.length:=by rw[<-iv.length];exact rv.length
  have XG:k=d0:=by
   rw[List.drop_of_length_le (by rw[length_zip];lia)]at hd;rw[M.g0]at hd;exact hd
  subst XG;refine codeAny_builtin M.en ?_;rw[Around.under_plainId M.pl _];show wpAny _ X.A.in1 (seqItems? (.ref S)>>=_) _ _ _;refine wX (wpAny_seqItems T.1 r4 ?_);show wpAny _ X.A.in1 (tryCatch (pyNext (.ref It)) _>>=_) _ _ _;refine wX (wpAny_tryCatch (W.done _ _ _ ⟨by grind,hl⟩ λh' Kc OH=>?_));have J1:Inv X ((It,oI)::(S,seqObj "list" #[U,O] c)::aa) σ H s:=zM I;have Y:∀q∈X.pn++((S,seqObj "list" #[U,O] c)::aa),q.1≠It:=pA RK E;have J2:=
   (iE J1).turned (t':=Kc) (λb o n e=>OH b o (by simpa using n) e) (J1.pin (It,oI) (mY _ mX)).2.1 (J1.pin (It,oI) (mY _ mX)).2.2.1 (.inr I0) (mf J1) Y
  have x:=J2.pin (S,seqObj "list" #[U,O] c) (mY _ mX);obtain⟨c2,No⟩:∃c2,(h'.update S (Obj.mapSeq λ_=>(#[]:AV))).get? S=some (seqObj "list" #[] c2):=⟨_,get?_update_seq x.1 λ_=>#[]⟩;have F:=vW h' S (Obj.mapSeq λ_=>(#[]:AV));show wpAny _ X.A.in1 (updateSeq S (λ_=>#[])>>=_) _ _ _;refine wX ?_;refine wpAny_updateSeq x.1 r4 (wX (wpAny_letGo (wY ?_)));exact hR _ H N i U (iE (eM (t':=Kc) J2 S0 WZ (λb o n e=>(F.2 b n).trans e) No ci)) d P i1
 |succ r ih=>
  intro j s H N U O i p k t m c oI hr hj I Kd d P i1 Q i2 f mk hd;have lH:j<(ks.zip ds).length:=by rw[length_zip,me ek,iG em,<-iv.length];simp<;>lia
  have T:=I.pin (S,seqObj "list" #[U,O] c) (mY _ mX);have hz:=vU lH;rw[List.drop_eq_getElem_cons lH,M.g1]at hd;generalize (ks.zip ds)[j]=y at hz hd;have hm:y.1∈ks:=mem_of_getElem? (getElem?_zip_eq_some.mp hz).1;obtain⟨r,g⟩:=M.cg hc mk hm;refine codeAny_builtin M.en ?_;rw[Around.under_plainId M.pl _];show wpAny _ X.A.in1 (seqItems? (.ref S)>>=_) _ _ _;refine wX (wpAny_seqItems T.1 r4 ?_);show wpAny _ X.A.in1 (tryCatch (pyNext (.ref It)) _>>=_) _ _ _;refine wX (wpAny_tryCatch (aV (Hx hh DV hq iv em ek I0 (pA RK E) RL hz I Kd d) λ_ s1 ⟨u,e,h1⟩=>?_));subst e;refine wX (wpAny_tryCatch (wpAny_holding (wpAny_mono h1 (λku s2 ⟨H2,N2,v,kv,kd,XJ,C,Xd,h,ru,WX,rk,ik,Sn⟩=>?_) λ_ _ z=>z.elim)));have t1:=oi C rk (ik.mono h.nh) Sn;have t2:=oi C Q (i2.mono (h.bn.trans h.nh)) f;refine wX (wpAny_tryCatch (wpAny_holding (wX (M.rc t1 t2 g hu ?_))));refine wX (wpAny_holding (wpAny_truthy_bool ?_));refine wX (wpAny_letGo (wY ?_));cases r with
  |true=>
   rw[if_pos g]at hd;have F:=vW s2.heap S (Obj.mapSeq λ_=>#[u,ku]);simp only[if_true];have Xe:=C.pin (S,seqObj "list" #[U,O] c) (mY _ mX);refine wX (wpAny_updateSeq Xe.1 r4 (wX (wpAny_letGo ?_)));rw[M.hn];obtain⟨o,g1,g2⟩:=Xd;exact wY ⟨plainId_quiet M.pl _,ih (j+1) _ H2 N2 u ku v kv y.2 kd y.1 _ XJ N9 N9 (eM (t':=s2.toks) C S0 (pA WZ E.symm) (λb o n e=>(F.2 b n).trans e) (get?_update_seq Xe.1 λ_=>#[u,ku]) ci) ⟨o,(F.2 It E.symm).trans g1,g2⟩ (d.trans h) ru WX rk ik Sn hm hd⟩
  |false=>
   rw[if_neg (by rw[g];simp)]at hd;simp only[uW,if_false];refine wX (wpAny_letGo ?_);rw[M.hn];exact wY ⟨plainId_quiet M.pl _,ih (j+1) _ H2 N2 U O i p k t m c XJ N9 N9 C Xd (d.trans h) P (i1.mono h.bn) Q (i2.mono h.bn) f mk hd⟩
end
@[simp] def YC (go:List At×D->List (List At×D)->D)(f:FE)(O:Env->D->Option D):FE:=λρ=>(f ρ).bind λx=>match x.1 with
 |.lst ds=>(nG (O ρ) ds).bind λM=>(gp M).bind λks=>if fB ks=true then match ks.zip ds with
  |[]=>none
  |y::r=>some (go y r,false)
  else none
 |_=>none
@[simp] def Ua:=YC Bh
@[simp] def Ub:=YC Bi
section
variable {X:Cx}{e ke:Expr}{p pos kp:Pos}
set_option tactic.hygienic true in
def NX {nm lp:String}{ns:Str}{op:CmpOp}{lt:List At->List At->Option Bool}{go:List At×D->List (List At×D)->D}(M:MM nm lp ns op lt go){f:FE}{t:Env->D->Option D}{k:Nat}(hm:X.mg ns=none)(he:JE X e f)(hk:JK X X.A.in1 ke t)(w:bB k X.A)(V:Gl X ns)
  (h:ce e X.env):
  JE X (.Call (.Name ns p) [e] [⟨some "key",ke,kp⟩] pos) (YC go f t):=by
 refine Ht (g:=λk ds=>(nG k ds).bind λx=>(gp x).bind λks=>if fB ks=true then match ks.zip ds with
  |[]=>none
  |y::r=>some (go y r,false)
  else none) M.bt M.n1 M.n2 hm he hk V h λ{aa σ H2 s2 qa B N H k l vs its ds d b Q} I2 DV hq il rv pl x1 O q=>?_
 refine eX O λx C O=>?_;refine eX O λks ek O=>?_;split at O
 .rename_i hc;split at O
  .cases O
  rename_i y bu i;cases O
  have a:l<s2.z:=by
   obtain⟨ol,W,_⟩:=pl;exact vX W
  have E:(ks.zip ds)[0]? = some y:=by rw[i];rfl
  have j:=mem_of_getElem? (getElem?_zip_eq_some.mp E).1;refine kmk_tree M.k2 M.p2 M.e2 (M.ka _ _) ?_;refine wX (wpAny_of_eq (show Builtin.Builtins.bindParams nm ["key","default"] 0 ⟨[],[(Str.ofString "key",.ref qa)]⟩=pure [some (.ref qa),none]from r4) ?_);refine wX (wY ?_);refine wX (wpAny_pyIter_list pl ?_);refine wX (wpAny_newList ?_ (uO _));rw[M.hn];let It:Addr:=s2.z;let oI:Obj:={ cls:=.type "list_iterator",data:=.fields #[.ref l,.int 0 0] };let S:Addr:=(s2.heap.push oI).objs.size;have c:S=s2.z+1:=size_push' ..;have U:S≠It:=by rw[c];exact ne_of_gt (lt_succ_self _)
  have J1:Inv X ((It,oI)::aa) σ H2 { s2 with heap:=s2.heap.push oI }:=oh (t':=s2.toks) I2 (λb u q=>vZ _ q) (vT _) (vY _ r4) (λv z=>by cases z);have J2:Inv X ((S,seqObj "list" #[] 0)::(It,oI)::aa) σ H2 _:=oh (s:={ s2 with heap:=s2.heap.push oI }) (t':=s2.toks) J1 (λb u q=>vZ _ q) (vT _) (vY _ r4) ci;have F:X.s₀.z<=It:=I2.sz;have G:X.s₀.z<=S:=by rw[c];exact Nat.le_succ_of_le I2.sz
  have I:∀q∈X.pn++aa,q.1≠It:=λq hq=>vS (vX (I2.pin q hq).1);have J:∀q∈X.pn++aa,q.1≠S:=λq hq=>by rw[c];exact vS (lt_succ_of_lt (vX (I2.pin q hq).1))
  have K:l≠It:=vS a;have Y:S≠l:=by rw[c];exact ne_of_gt (lt_succ_of_lt a)
  have hh:X.A.handled=none:=w.hd;have hu:X.A.in1.units<cLine:=by have:=w.un;lia
  have Z:=J2.pin (S,seqObj "list" #[] 0) (mY _ mX);have pI:=J2.pin (It,oI) (mY _ (mZ _ mX));refine wY ⟨plainId_quiet M.pl _,?_⟩;refine codeAny_builtin M.en ?_;rw[Around.under_plainId M.pl _];refine wX (wpAny_seqItems Z.1 r4 ?_);refine wX (wpAny_tryCatch (aV (Hx hh DV hq il C ek F (pA I U) K E J2 ⟨oI,pI.1,r4,r4⟩ (.refl x1.nh)) λ_ s1 ⟨u,e,h1⟩=>?_));subst e;refine wX (wpAny_tryCatch (wpAny_holding (wpAny_mono h1 (λku L ⟨H3,N3,v,kv,kd,XJ,P,⟨o,g1,g2⟩,x3,ru,WX,rk,ik,Sn⟩=>?_) λ_ _ z=>z.elim)));have R:=P.pin (S,seqObj "list" #[] 0) (mY _ mX);have T:=vW L.heap S (Obj.mapSeq λ_=>#[u,ku]);refine wX (wpAny_updateSeq R.1 r4 ?_);rw[M.hn];have m:1<=vs.length:=by
   have:=congrArg List.length i;rw[length_zip,vE,<-il.length]at this;grind
  exact wY ⟨plainId_quiet M.pl _,LX M (S:=S) (It:=It) hh hu DV ⟨qa,r4⟩ hq il C ek hc G F J I U Y K (λs' H' N' v' u' J' x' r' i'=>⟨v',H',J',r',q _ _ _ (x1.trans x') i' X9⟩) _ 1 _ H3 N3 u ku v kv y.2 kd y.1 _ XJ r4 m
   (eM (t':=L.toks) P G (pA J U.symm) (λb o n e=>(T.2 b n).trans e) (get?_update_seq R.1 λ_=>#[u,ku]) ci) ⟨o,(T.2 It U.symm).trans g1,g2⟩ x3 ru WX rk ik Sn j (by rw[i];rfl)⟩
 .cases O
end
section
variable {X:Cx}
@[simp] def tLt:D->D->OB
 |.tup xs,.tup ys=>(jR xs).bind λas=>(jR ys).bind λbs=>(aZ as bs).map λr=>(.bl r,false)
 |_,_=>none
def Uc (hu:X.A.units+40<cLine):bT X (compareOp .Lt) (rD X.K tLt):=by
 intro aa s σ H x y v u Q I O U q;refine eR q λB dx a d b M c f e q=>?_;cases dx<;>try (simp at e)
 cases a<;>try (simp at e)
 refine eX e λas g e=>eX e λbs e2 e=>?_;refine eB e λr h e=>?_;cases e
 exact Hw (oi I O (c.mono M) g) (oi I U (f.mono M) e2) h N9 ⟨.bl r,H,I,r4,q.one M (.bl r)⟩
end
section
variable {X:Cx}{a b:Expr}{p pos:Pos}
@[simp] def oj (f g:FE):FA:=λρ=>(f ρ).bind λx=>(g ρ).bind λy=>match x.1,y.1 with
 |.int i,.int j=>if -1000<=i/\i<=1000/\-1000<=j/\j<=1000 then some (bU i (j - i).toNat)else none
 |_,_=>none
def EQ (hm:X.mg "range" = none)(h:JE X a f)(h':JE X b g)(c:autoParam (Gl X "range") I9._auto_1)(hs:autoParam (starEach [a,b] X.env=[(false,eval a X.env),(false,eval b X.env)]) I9._auto_1)(O:autoParam (ce b X.env) I9._auto_1):PI X tg (.Call (.Name "range" p) [a,b] [] pos) (P1 X.K (oj f g)):=by
 refine PI.to (Ed c hm (ag h (ag h' aB O) (by rw[bE,hs,O])) hs O) λσ H R q=>?_;refine cX λG W=>?_;obtain⟨B,ρ,ds,d,r,M,q⟩:=q;obtain⟨⟨x,m⟩,ex,M⟩:=oX M;obtain⟨⟨y,n⟩,U,M⟩:=oX M;apply W;clear W;rcases x with _|_|i|_|_|_|_|_|_|_<;>try (cases M;done)
 rcases y with _|_|j|_|_|_|_|_|_|_<;>try (cases M;done)
 dsimp at M;split at M
 .cases M
  refine⟨B,ρ,[.int i,.int j],d,r,by simp[ex,U],λvs e N1 k i1=>?_⟩;cases i1 with
  |cons i1 i2=>
   cases i1
   cases i2 with
   |cons i2 l=>
    cases i2;cases l
    exact⟨i,j,r4,N9,q _ e N1 k λz=>wD i _⟩
 .cases M
end
end DL
namespace DL
open PySem PySem.Spec PyProof.Rows L2
section
variable {X:Cx}
@[simp] def xx9:D->D->OB
 |d,.tup [.ty n,.ty m]=>if wC d=true then none else if n = "list"/\m = "tuple" then some (.bl (fM d == "list" || fM d == "tuple"),false)else none
 |_,_=>none
@[simp] def om:LD->OB
 |[d,e]=>xx9 d e
 |_=>none
def ER K d(hd:wC d=false):PySem.W.kitAny K (.type (fM d)) [.type "list",.type "tuple"]=some (fM d == "list" || fM d == "tuple"):=by
 obtain⟨z,z,z,M,k5⟩:=GO K d hd;unfold PySem.W.kitAny;rw[M];cases fM d == "list" with
 |true=>rfl
 |false=>
  unfold PySem.W.kitAny;rw[k5];cases fM d == "tuple" with
  |true=>rfl
  |false=>rfl
def Hy (I:Inv X aa σ H s)(i:Is X.K H v d)(hd:wC d=false)(M:aA v u)(U:IsTup s.heap tp its.toArray)(e:PySem.W.kitAny X.K (.type (fM d)) its=some b)(h:∀tk,Q (.bool b) { s with toks:=tk }):
  wpAny (model X.prog X.w) A (call (.builtin "isinstance") [u,.ref tp]) Q E s:=by
 refine cX λG g=>?_;obtain⟨⟨cls,dd,data,sl⟩,O,hc,n,a⟩:=id U;apply g;subst hc;subst a;cases i with
 |non=>cases (show u=Value.none from M);exact PySem.W.kia_tup PySem.W.kitx_none I.kIn True.intro O e (λz=>nomatch z) h
 |bl y=>cases (show u=Value.bool y from M);exact PySem.W.kia_tup PySem.W.kitx_bool I.kIn True.intro O e (λz=>nomatch z) h
 |int i=>obtain⟨t,q⟩:=(show ∃t,u=Value.int i t from M);cases q;exact PySem.W.kia_tup PySem.W.kitx_int I.kIn True.intro O e (λz=>nomatch z) h
 |str y=>obtain⟨t,q⟩:=(show ∃t,u=Value.str y t from M);cases q;exact PySem.W.kia_tup PySem.W.kitx_str I.kIn True.intro O e (λz=>nomatch z) h
 |ty n=>cases hd
 |ob _ _ _=>cases hd
 |dk h1 _ _=>
  cases M
  refine cX λG g=>?_;obtain⟨x,x,x,vs,x,o,es,f,c,e2,x⟩:=(show aE X.prog X.w H s.heap _ (.dK _ _)from I.hok _ _ h1);apply g;exact PySem.W.kia_tup PySem.W.kitx_dict I.kIn ⟨o,c,e2.1⟩ O e (λz=>nomatch z) h
 |dt h1 _ _=>
  cases M
  refine cX λG g=>?_;obtain⟨x,x,xs,x,o,es,f,c,e2,x⟩:=(show aE X.prog X.w H s.heap _ (.dT _)from I.hok _ _ h1);apply g;exact PySem.W.kia_tup PySem.W.kitx_dict I.kIn ⟨o,c,e2.1⟩ O e (λz=>nomatch z) h
 |tup U _=>
  cases M
  refine cX λG g=>?_;obtain⟨its,x,⟨o,h1,h2,x⟩,x⟩:=I.tuple U;apply g;exact PySem.W.kia_tup PySem.W.kitx_tuple I.kIn ⟨o,h1,h2⟩ O e (λz=>nomatch z) h
 |lst hl _=>
  cases M
  refine cX λG g=>?_;obtain⟨its,x,⟨o,n,h1,h2,x⟩,x⟩:=I.list hl;apply g;exact PySem.W.kia_tup PySem.W.kitx_list I.kIn ⟨o,h1,h2⟩ O e (λz=>nomatch z) h
set_option tactic.hygienic true in
def rT:aY X (.builtin "isinstance") (wl X.K om):=by
 intro aa s σ H xs us Q I a q;refine e6 q λB ds d b M i e q=>?_;cases i with
 |nil=>cases e
 |@cons _ dx _ _ i1 i=>
  cases i with
  |nil=>cases e
  |cons i2 i=>
   cases i with
   |cons _ _=>cases e
   |nil=>
    cases i2<;>try (cases e)
    rename_i hs hl;cases hl with
    |nil=>cases e
    |cons c hl=>
     cases c<;>try (cases e)
     cases hl with
     |nil=>cases e
     |cons f hl=>
      cases f<;>try (cases e)
      cases hl with
      |cons _ _=>cases e
      |nil=>
       obtain⟨l,m,rfl,g,h⟩:=NB a;change(if _ then _ else _)=_ at e;split at e
       .cases e
       .rename_i j;have hd:wC dx=false:=by simpa using j
        split at e
        .rename_i hh;obtain⟨rfl,rfl⟩:=hh;cases e
         cases h
         refine I.tupE (aG M hs) λits k p _=>?_;obtain⟨n,o,rfl,O,U⟩:=k.two;cases O
         cases U
         exact Hy I (i1.mono M) hd g p (ER X.K dx hd) λtk=>⟨.bl _,H,I.tok tk,r4,q.one M (.bl _)⟩
        .cases e
end
@[simp] noncomputable def iI:D->Option d8
 |.int i=>some (.inl i)
 |.str x=>some (.inr x)
 |_=>none
def mJ {K:Frag}(i:Is K B v d)(e:iI d=some k):v=kV k:=by
 cases i<;>simp at e<;>cases e<;>rfl
noncomputable def j7 {κ:Type}[DecidableEq κ]:List κ->LD->κ->Option D
 |k'::ks,d::ds,k=>if k'=k then some d else j7 ks ds k
 |_,_,_=>none
theorem pB {κ:Type}[DecidableEq κ]{K:Frag}k:∀ {ks:List κ}{vs:LV}{ds:LD},ks.length=vs.length->IsL K B vs ds ->
  (∃v d,ie (ks.zip vs) k=some v/\j7 ks ds k=some d/\Is K B v d)\/(ie (ks.zip vs) k=none/\j7 ks ds k=none)
 |[],vs,ds,_,_=>.inr ⟨by cases vs<;>rfl,by cases ds<;>rfl⟩
 |k'::ks,[],_,h,_=>by simp at h
 |k'::ks,v::vs,_,h,.cons i is=>by
  rw[zip_cons_cons];unfold j7;by_cases e:k'=k
  .rw[if_pos e];exact .inl ⟨v,_,kA e,r4,i⟩
  .rw[if_neg e,kB e];exact pB k (by simpa using h) is
section
variable {X:Cx}{o e i:Expr}{pos:Pos}
@[simp] def YD:D->D->OB
 |.dk ks vs,y=>(iI y).map λk=>((j7 ks vs k).getD .non,false)
 |_,_=>none
def Hz(hu:X.A.units+1<cLine)(c:JE X o fo)(he:JE X e fe)(m:M1 X o "get" aW e aO):JE X (.Call (.Attribute o "get" aW) [e] [] aO) (f2 YD fo fe):=by
 refine PE.to (wj hu c he m) λσ H Q q=>?_;refine cX λG K=>?_;obtain⟨B,ρ,d,p,f,r,M,q⟩:=q;refine eX M λx ex M=>?_;refine eX M λy g M=>?_;apply K;refine⟨B,ρ,x.1,x.2,f,r,ex,λv s N1 U i1 t=>?_⟩;obtain⟨xd,u⟩:=x;cases i1 with
 |@dk a ks vs ds ob h hl hs=>
  refine eB M λk hk M=>?_;cases M
  refine⟨a,r4,.inl ⟨_,_,.inl (U.nh _ _ h)⟩,N1,ρ,y.1,y.2,U.nh,r.mono U.bn,g,λw H2 N2 O i2 z=>?_⟩;have j:=mJ i2 hk;subst j;refine⟨ie _ k,.inl ⟨_,k,_,.inl (O.nh _ _ (O.bn _ _ h)),r4,r4⟩,?_⟩;have l:=hs.mono O.bn;rcases pB k hl l with⟨v,d',b,e2,n⟩|⟨b,e2⟩
  .rw[b];rw[e2]at q;exact(q.into (U.trans O)).one O.nh n
  .rw[b];rw[e2]at q;exact(q.into (U.trans O)).one O.nh .non
 |_=>simp at M
@[simp] def ixK:D->D->OB
 |.dk ks vs,y=>(iI y).bind λk=>(j7 ks vs k).map λd=>(d,false)
 |_,_=>none
def Qp(hu:X.A.units+1<cLine)(f:JE X o fo)(hi:JE X i c)(hs:Pu i):JE X (.Subscript o i pos) (f2 ixK fo c):=by
 refine PE.to (KW hu f hi hs) λσ H Q q=>cX λG K=>?_;obtain⟨B,ρ,d,p,g,r,M,q⟩:=q;refine eX M λx ex M=>eX M λy j M=>?_;apply K;clear K;refine⟨B,ρ,x.1,x.2,g,r,ex,λv s N1 U i1 t=>?_⟩;obtain⟨xd,u⟩:=x;cases i1 with
 |@dk a ks vs ds ob h hl b=>
  refine eX M λk hk M=>eB M λd0 hd M=>?_;cases M
  refine⟨N1,ρ,y.1,y.2,U.nh,r.mono U.bn,j,λw H2 N2 O i2 z=>?_⟩;have l:=mJ i2 hk;subst l;rcases pB k hl (b.mono O.bn)with⟨v,d',m,e2,n⟩|⟨_,e2⟩
  .rw[hd]at e2;cases e2
   exact⟨a,v,r4,.inl ⟨_,k,_,.inl (O.nh _ _ (O.bn _ _ h)),r4,m.symm⟩,(q.into (U.trans O)).one O.nh n⟩
  simp_all
 |_=>simp at M
@[simp] def inK:D->D->OB
 |y,.dk ks vs=>(iI y).map λk=>(.bl (j7 ks vs k).isSome,false)
 |_,_=>none
@[simp] def HA:D->D->OB
 |y,.dk ks vs=>(iI y).map λk=>(.bl (!(j7 ks vs k).isSome),false)
 |_,_=>none
def rV {κ:Type}[DecidableEq κ]{K:Frag}{k:κ}{ks:List κ}(hl:ks.length=vs.length)(hs:IsL K B vs ds):(ie (ks.zip vs) k).isSome=(j7 ks ds k).isSome:=by
 grind[pB]
def ES(hu:X.A.units+1<cLine)(hi:JE X i b)(c:JE X o fo)(hm:behindInMarks .NotIn o=false):JT X (.Compare i [.NotIn] [o] pos) (c8 (f2 HA b fo)):=by
 refine PT.to (FR (Es hu hi c) hm) λσ H Q q=>cX λG K=>?_;obtain⟨B,ρ,d,l,f,r,M,q⟩:=pd q;refine eX M λy g M=>eX M λx ex M=>?_;apply K;refine⟨B,ρ,y.1,y.2,f,r,g,λm n N1 O i2 z=>⟨N1,ρ,x.1,x.2,O.nh,r.mono O.bn,ex,λv H2 N2 U i1 p=>?_⟩⟩;obtain⟨xd,s⟩:=x;cases i1 with
 |@dk a ks vs ds ob h hl hs=>
  refine eB M λk hk M=>?_;cases M
  have j:=mJ i2 hk;subst j;refine⟨a,ie _ k,r4,.inl ⟨_,k,_,.inl (U.nh _ _ h),r4,r4⟩,?_⟩;rw[rV hl hs];exact(q.into (O.trans U)).one U.nh (.bl _)
 |_=>simp at M
end
noncomputable def iJ {κ:Type}[DecidableEq κ](ks:List κ)(k:κ):List κ:=if k∈ks then ks else ks++[k]
noncomputable def gq {κ α:Type}[DecidableEq κ](ks:List κ)(xs:List α)(k:κ)(x:α):List α:=if k∈ks then List.zipWith (λk' M=>if k'=k then x else M) ks xs else xs++[x]
theorem Bj {κ:Type}[DecidableEq κ]k:∀ {ks:List κ}{vs:LV},ks.length=vs.length->((ks.zip vs).any λkv=>decide (kv.1=k))=decide (k∈ks)
 |[],_,_=>by simp
 |k'::ks,[],h=>by simp at h
 |k'::ks,v::vs,h=>by
  have M:=Bj k (by simpa using h);simp_all<;>lia
theorem Bl {κ:Type}[DecidableEq κ]k(v:V):∀(ks:List κ)vs,(ks.zip vs).map (λkv=>if kv.1=k then (kv.1,v)else kv)=ks.zip (List.zipWith (λk' M=>if k'=k then v else M) ks vs)
 |[],_=>by simp
 |_::_,[]=>by simp
 |k'::ks,w::vs=>by
  rw[zip_cons_cons,uZ,Bl k v ks vs,List.zipWith_cons_cons,zip_cons_cons];lia
def oq {κ:Type}[DecidableEq κ]{ks:List κ}(hl:ks.length=vs.length)k v:lO (ks.zip vs) k v=(iJ ks k).zip (gq ks vs k v):=by
 unfold lO iJ gq;rw[Bj k hl];by_cases h:k∈ks
 .rw[if_pos (kh h),if_pos h,if_pos h,Bl]
 simp_all[List.zip_append]
def la {κ α:Type}[DecidableEq κ]{ks:List κ}{xs:List α}(hl:ks.length=xs.length)k x:(iJ ks k).length=(gq ks xs k x).length:=by
 unfold iJ gq;split<;>simp[hl]
theorem IsL.zipWith {κ:Type}[DecidableEq κ]{K:Frag}{k:κ}(i:Is K B v d):∀ {ks:List κ}{vs:LV}{ds:LD},IsL K B vs ds->IsL K B (List.zipWith (λk' M=>if k'=k then v else M) ks vs) (List.zipWith (λk' M=>if k'=k then d else M) ks ds)
 |[],_,_,_=>by simpa using IsL.nil
 |_::_,_,_,.nil=>by simpa using IsL.nil
 |k'::ks,_,_,.cons h t=>by
  rw[List.zipWith_cons_cons];refine .cons ?_ (IsL.zipWith i t);split<;>simp_all
def IsL.put {κ:Type}[DecidableEq κ]{K:Frag}{k:κ}(i:Is K B v d){ks:List κ}(h:IsL K B vs ds):IsL K B (gq ks vs k v) (gq ks ds k d):=by
 unfold gq;split
 .exact h.zipWith i
 .exact h.append (.cons i .nil)
section
variable {K:Frag}{E:Ends}{σ:St}{H:Hp}
noncomputable def HB (i:Nat):FS:=λρ=>some (.nx (ρ.set i (some (.dk [] [],true))))
noncomputable def HC (i:Nat):FS:=λρ=>some (.nx (ρ.set i (some (.dt [] [],true))))
def cy.newBox (s:cy K B0 H0 N H σ ρ)(i:Nat)(hp:H p=none)(hb:∀C,Bx K C ob dd):cy K B0 H0 (upd N p ob) (upd H p ob) (σ.set i (some (.ref p))) (ρ.set i (some (dd,true))):=by
 have x:=Ext.laid (o:=ob) s.ext.nh hp;have s1:=s.grow x;have M:=s.ext.nh.free hp;have O:¬own σ ρ p:=λz=>by obtain⟨ws,⟨q,y⟩,y⟩:=s.owned z;lia
 have c:au _ (cE (upd N p ob) (λb=>own σ ρ b\/b=p)):=cM λb u e q=>⟨x.bn _ _ e,λz=>z.elim q λz=>by subst z;rw[M]at e;cases e⟩;refine s1.bindOwn ae (s.ext.hh.free hp) (λj e q z=>O ⟨j,e,q,z⟩) (λj e y q=>?_) (λj e y q=>?_) (hb _)
 .obtain⟨w,h1,h2⟩:=s.sh j e q;exact⟨w,h1,h2.mono c⟩
 .obtain⟨U,o',h1,h2,_,h4⟩:=s.ow j e q;exact⟨U,o',h1,x.bn _ _ h2,h4.mono c⟩
def HD (q:jw K (HB i) E σ H):wb Gu (fu i) E σ H:=by
 refine cX λG g=>?_;obtain⟨B0,H0,ρ,r,⟨N,s⟩,e,p⟩:=q;apply g;cases e
 exact λa ob ha=>p _ _ ⟨_,s.newBox i ha λz=>.dk (ks:=[]) r4 .nil⟩
def HE (q:jw K (HC i) E σ H):wb Gv (fu i) E σ H:=by
 refine cX λG g=>?_;obtain⟨B0,H0,ρ,r,⟨N,s⟩,e,p⟩:=q;apply g;cases e
 exact λa ha=>p _ _ ⟨_,s.newBox i ha λz=>.dt (ks:=[]) r4 .nil⟩
def Bm (i:Nat)(O U:FE):FS:=λρ=>match ρ[i]? with
 |some (some (.dk ks vs,true))=>(U ρ).bind λv=>(O ρ).bind λk=>(iI k.1).bind λM=>if bc v.1=true/\ks.length<sizeLine then some (.nx (ρ.set i (some (.dk (iJ ks M) (gq ks vs M v.1),true))))else none
 |_=>none
set_option tactic.hygienic true in
def HF(q:jw K (Bm i M O) E σ H):AE (kq i) (tD K M) (tD K O) E σ H:=by
 refine cX λG g=>?_;obtain⟨B0,H0,ρ,r,⟨N,s⟩,e,p⟩:=q;apply g;clear g;unfold Bm at e;split at e
 .rename_i ks ds ei;refine eX e λv ev e=>?_;refine eX e λk ek e=>?_;refine eX e λb hk e=>?_;split at e
  .rename_i hx;cases e
   refine⟨N,ρ,v.1,v.2,s.ext.nh,s.rep,ev,λh j N1 c i1 _=>?_⟩;have s1:=s.grow c;obtain⟨a,o,h1,h2,h3,h4⟩:=s1.ow i _ ei;refine⟨.ref a,h1,N1,ρ,k.1,k.2,s1.ext.nh,s1.rep,ek,λl H2 N2 U i2 _=>?_⟩;have s2:=s1.grow U;have d:=mJ i2 hk;subst d;obtain⟨m,o',k1,k2,k3,f⟩:=s2.ow i _ ei;rw[h1]at k1;cases k1
   cases f with
   |@dk ks vs ds hl h5 ob=>
    refine⟨a,r4,.inl ⟨_,b,_,s2.ext.nh _ _ k2,r4,?_,λg=>?_⟩⟩
    .rw[length_zip];lia
    .rw[oq hl];exact p σ _ ⟨_,s2.writeB ei h1 (.dk (la hl _ _) (h5.put (s2.flat (i1.mono U.bn) hx.1)))⟩
  .cases e
 simp_all
end
section
variable {X:Cx}{pos:Pos}{e k:Expr}
def LY (M:X.N.Nodup)(hi:X.N[i]? = some x)(hx:FP X.env.scope x)(hs:swapsWith (.Dict [] [] dp) (some (.Name x p)) pos.line X.env=pure false)
  (hf:X.fn x=true\/X.env.scope.names.lookup x=some .local):JS X (.Assign [.Name x p] (.Dict [] [] dp) pos) (HB i):=PS.to (cm M hi hx Gw hs hf) λz z z=>HD
def LZ (M:X.N.Nodup)(hi:X.N[i]? = some x)(hx:FP X.env.scope x)(hs:swapsWith (.Dict [] [] dp) (some (.Name x p)) pos.line X.env=pure false)
  (hf:X.fn x=true\/X.env.scope.names.lookup x=some .local):JS X (.Assign [.Name x p] (.Dict [] [] dp) pos) (HC i):=PS.to (cm M hi hx Gx hs hf) λz z z=>HE
def Ma (hu:X.A.units+1<cLine)(U:JE X e fv)(hk:JE X k fk)(a:X.N[i]? = some y)(M:Kf X.env.scope y)(hd:aS y)
  (O:km y) (hs:swapsWith e (some (.Subscript (.Name y py) k pt)) pos.line X.env=pure false):JS X (.Assign [.Subscript (.Name y py) k pt] e pos) (Bm i fk fv):=
 PS.to (tU hu (aF a M hd O) hk U hs) λz z z=>HF
end
section
variable {prog:Program}{w:World}{A:Around}{E:QV}{s:Shared}
abbrev mh (h:Heap)(z TI TO M:Addr)(f:Bool):Prop:=h.get? z=some { cls:=.type "zip",dict:=none,data:=.fields #[rawInt M,.bool f,.bool false,.ref TI,.ref TO],slots:=#[] }
def HG (e:s.heap.get? a=some o)(h:Q (some o) s):wpAny (model prog w) A (loadIfAlive a) Q E s:=by
 intro O p M;simp_all[loadIfAlive]
def rW {z TI TO M:Addr}{f:Bool}{U:Obj}{Q:Bool->Shared->Prop}(hz:mh s.heap z TI TO M f)(a:s.heap.get? M=some U)
  (q:∀h',mh h' z TI TO M true->Heap.SameBut z s.heap h'->Q false { s with heap:=h' }):wpAny (model prog w) A (Builtin.SmallTypes.ownedTupleIsFree (.ref z)) Q E s:=by
 refine wX (wpAny_field hz r4 r4 ?_);refine wX (HG a (wX (wpAny_field hz r4 r4 ?_)));cases f with
 |true=>
  exact wY (q _ hz (.refl _ _))
 |false=>
  refine wX (wpAny_setField_rec hz X9 λh' O s'=>wY (q h' O s'))
end
section
variable {prog:Program}{w:World}{A:Around}{E:QV}{s:Shared}
def ET {k1 k2:Bool}{z TI TO a i1 i2 l1 l2:Addr}{f:Bool}{m:Obj}{j:Nat}{xs ys:AV}{x y:Value}{Q:QV}(Z:ZA z TI TO i1 i2 l1 l2)
  (hz:mh s.heap z TI TO a f) (n:s.heap.get? a=some m) (k:IsPair s.heap TI (.ref i1) (.ref i2)) (t1:hJ k1 s.heap i1 l1 j) (t2:hJ k2 s.heap i2 l2 j) (p:iz k1 s.heap l1 xs) (q2:iz k2 s.heap l2 ys) (hx:xs[j]? = some x) (hy:ys[j]? = some y)
  (q:∀h',mh h' z TI TO a true->hJ k1 h' i1 l1 (j+1)->hJ k2 h' i2 l2 (j+1)->IsPair h' s.z x y ->
   IsPair h' TI (.ref i1) (.ref i2)->(∀o,s.heap.get? TO=some o->h'.get? TO=some o)->(∀c o,c∉[z,TI,TO,i1,i2]->s.heap.get? c=some o->h'.get? c=some o)->Q (.ref s.z) { s with heap:=h' }):
  wpAny (model prog w) A (Builtin.«zip.__next__» ⟨[.ref z],[]⟩) (λdZ s'=>∃v,dZ=.done (.ret v)/\Q v s') E s:=by
 obtain⟨D,m1,m2⟩:=Z;show wpAny _ _ (field (.ref z) 2>>=_) _ _ s;refine wX (wpAny_field hz r4 (x:=.bool false) r4 ?_);refine wX (wpAny_field hz r4 (x:=.ref TI) r4 (wX (wpAny_seqItems k r4 ?_)));refine wX (rW hz n λg1 r s1=>?_);simp only[uW,if_false];refine wX ?_;refine wX (wX (wpAny_holding ?_));refine wX (dv (s:={ s with heap:=g1 }) (t1.upon λo e=>s1.extBut _ _ D.az e) (p.upon λo e=>s1.extBut _ _ m1.1 e) hx λl b s2=>wY ?_);refine wY (wX (wX (wpAny_holding ?_)));have M:∀ {c o},c≠z->c≠i1->s.heap.get? c=some o->l.get? c=some o:=λd g e=>s2.extBut _ _ g (s1.extBut _ _ d e);refine wX (dv (s:={ s with heap:=l }) (t2.upon λo e=>M D.bz D.ab.symm e) (q2.upon λo e=>M m2.1 m2.2.2.1 e) hy λh i U=>wY ?_);refine wY (wY ?_);refine wX (wpAny_newTuple (hsz:=(by decide:2<=sizeLine)) ?_);have sz:h.objs.size=s.z:=by rw[U.1,s2.1,s1.1]
 have O:∀c o,c≠z->c≠i1->c≠i2->s.heap.get? c=some o->h.get? c=some o:=λc o d g t e=>U.extBut _ _ t (M d g e);refine wY ⟨_,r4,?_⟩;have hp:IsPair _ h.objs.size x y:=vY _ r4;rw[sz]at hp |-;exact q _ (vZ _ (U.extBut _ _ D.bz.symm (s2.extBut _ _ D.az.symm r))) (b.upon λo e=>vZ _ (U.extBut _ _ D.ab e)) (i.upon λo e=>vZ _ e) hp (vZ _ (O _ _ D.tz D.ta D.tb k)) (λo e=>vZ _ (O _ _ D.oz D.oa D.ob e)) λc o hc e=>by
  simp at hc;exact vZ _ (O c o hc.1 hc.2.2.2.1 hc.2.2.2.2 e)
def HH {k1 k2:Bool}{z TI TO U i1 i2 l1 l2:Addr}{f:Bool}{d:Obj}{j:Nat}{xs ys:AV}{Q:PySem.Fin->Shared->Prop}(a:A.handled=none)(Z:ZA z TI TO i1 i2 l1 l2)
  (hz:mh s.heap z TI TO U f) (g:s.heap.get? U=some d) (h:IsPair s.heap TI (.ref i1) (.ref i2)) (t1:hJ k1 s.heap i1 l1 j) (t2:hJ k2 s.heap i2 l2 j) (b:iz k1 s.heap l1 xs) (q2:iz k2 s.heap l2 ys) (he:xs[j]? = none\/ys[j]? = none)
  (q:∀h' x,(∀c o,c∉[z,TI,TO,i1,i2]->s.heap.get? c=some o->h'.get? c=some o)->(∃o,h'.get? x=some o/\o.cls=.type "StopIteration")->E (.ref x) { s with heap:=h' }):
  wpAny (model prog w) A (Builtin.«zip.__next__» ⟨[.ref z],[]⟩) Q E s:=by
 obtain⟨D,m1,m2⟩:=Z;show wpAny _ _ (field (.ref z) 2>>=_) _ _ s;refine wX (wpAny_field hz r4 (x:=.bool false) r4 ?_);refine wX (wpAny_field hz r4 (x:=.ref TI) r4 (wX (wpAny_seqItems h r4 ?_)));refine wX (rW hz g λg1 p s1=>?_);refine wX ?_;refine wX (wX (wpAny_holding ?_));cases hx:xs[j]? with
 |none=>
  exact wX (gm (s:={ s with heap:=g1 }) a (t1.upon λo e=>s1.extBut _ _ D.az e) (b.upon λo e=>s1.extBut _ _ m1.1 e) hx λO x s2 hX=>q O x (λc o hc e=>by simp at hc;exact s2 _ _ hc.2.2.2.1 (s1.extBut _ _ hc.1 e)) hX)
 |some v=>
  have hy:ys[j]? = none:=by
   lia
  refine wX (dv (s:={ s with heap:=g1 }) (t1.upon λo e=>s1.extBut _ _ D.az e) (b.upon λo e=>s1.extBut _ _ m1.1 e) hx λO i s2=>wY ?_);refine wY (wX (wX (wpAny_holding ?_)));have M:∀ {c o},c≠z->c≠i1->s.heap.get? c=some o->O.get? c=some o:=λk l e=>s2.extBut _ _ l (s1.extBut _ _ k e);exact wX (gm (s:={ s with heap:=O }) a (t2.upon λo e=>M D.bz D.ab.symm e) (q2.upon λo e=>M m2.1 m2.2.2.1 e) hy λm x n hX=>q m x (λc o hc e=>by simp at hc;exact n _ _ hc.2.2.2.2 (M hc.1 hc.2.2.2.1 e)) hX)
end
def HI (k1 k2:Bool)(z TI TO i1 i2 l1 l2 S:Addr)(i:Nat)(h:Heap):Prop:=
 IsPair h TI (.ref i1) (.ref i2)/\hJ k1 h i1 l1 i/\hJ k2 h i2 l2 i/\((IsZip h z TI TO .none/\∃a b,IsPair h TO a b)\/∃M f O U,mh h z TI TO M f/\h.get? M=some O/\M∉[z,TI,TO,i1,i2]/\M≠S/\h.get? TO=some U)
def HI.keep{z TI TO i1 i2 l1 l2 S:Addr}{i:Nat}{h h':Heap}(st:HI k1 k2 z TI TO i1 i2 l1 l2 S i h)(O:S∉[z,TI,TO,i1,i2])(k:∀b o,b≠S->h.get? b=some o->h'.get? b=some o):HI k1 k2 z TI TO i1 i2 l1 l2 S i h':=by
 obtain⟨a1,a2,a3,U⟩:=st;have n:∀ {b},b∈[z,TI,TO,i1,i2]->b≠S:=λhb e=>O (e ▸ hb);refine⟨k _ _ (n X9) a1,a2.upon λo=>k _ o (n X9),a3.upon λo=>k _ o (n X9),?_⟩;rcases U with⟨b1,a,b,b2⟩|⟨c,f,d,g,b1,b2,j,M,l⟩
 .exact .inl ⟨k _ _ (n X9) b1,a,b,k _ _ (n X9) b2⟩
 .exact .inr ⟨c,f,d,g,k _ _ (n X9) b1,k _ _ M b2,j,M,k _ _ (n X9) l⟩
section
variable {prog:Program}{w:World}{A:Around}{E:QV}{s:Shared}{k1 k2:Bool}{z TI TO i1 i2 l1 l2 S:Addr}{j:Nat}{xs ys:AV}
def HI.ty (st:HI k1 k2 z TI TO i1 i2 l1 l2 S j h):∃o,h.get? z=some o/\o.cls=.type "zip":=by
 obtain⟨y,y,y,M⟩:=st;rcases M with⟨b1,y⟩|⟨O,f,U,a,b1,y⟩
 .exact⟨_,b1,r4⟩
 .exact⟨_,b1,r4⟩
def HJ (Z:ZA z TI TO i1 i2 l1 l2)(k:S<s.z)(st:HI k1 k2 z TI TO i1 i2 l1 l2 S j s.heap)(h:iz k1 s.heap l1 xs)(q2:iz k2 s.heap l2 ys)(hx:xs[j]? = some x)(hy:ys[j]? = some y)
  (q:∀h',HI k1 k2 z TI TO i1 i2 l1 l2 S (j+1) h'->IsPair h' s.z x y->(∀c o,c∉[z,TI,TO,i1,i2]->s.heap.get? c=some o->h'.get? c=some o)->Q (some (.ref s.z)) { s with heap:=h' }):
  wpAny (model prog w) A (pyNext (.ref z)) Q E s:=by
 have M:=st.ty;obtain⟨i,t1,t2,l⟩:=st;have lt:∀ {c o},s.heap.get? c=some o->s.z≠c:=λe=>ne_of_gt (vX e);obtain⟨o1,u,Y⟩:=t1.ob;obtain⟨v,e2,Y⟩:=t2.ob;rcases l with⟨hz,a,b,U⟩|⟨m,f,n,p,hz,h0,n0,r,U⟩
 .refine wX (wpAny_attempt (wpAny_callSpecial?_slot M slot_zip_next (wpAny_call_entry slot_zip_next M entry_zip_next (wH Z hz i U t1 t2 h q2 hx hy λh' b1 b2 d g O B bI bk=>wY ?_) (args_zip_next_1 _))));refine q h' ⟨bI,d,g,.inr ⟨_,false,_,_,b1,O,?_,ne_of_gt k,b2⟩⟩ O bk;simp_all
 .refine wX (wpAny_attempt (wpAny_callSpecial?_slot M slot_zip_next (wpAny_call_entry slot_zip_next M entry_zip_next (ET Z hz h0 i t1 t2 h q2 hx hy λh' b1 d g O bI t bk=>wY ?_) (args_zip_next_1 _))));exact q h' ⟨bI,d,g,.inr ⟨m,true,n,p,b1,bk _ _ n0 h0,n0,r,t _ U⟩⟩ O bk
def HK (U:A.handled=none)(Z:ZA z TI TO i1 i2 l1 l2)(st:HI k1 k2 z TI TO i1 i2 l1 l2 S j s.heap)(d:iz k1 s.heap l1 xs)(q2:iz k2 s.heap l2 ys)(he:xs[j]? = none\/ys[j]? = none)
  (q:∀h',(∀c o,c∉[z,TI,TO,i1,i2]->s.heap.get? c=some o->h'.get? c=some o)->Q none { s with heap:=h' }):wpAny (model prog w) A (pyNext (.ref z)) Q E s:=by
 have M:=st.ty;obtain⟨e,t1,t2,h⟩:=st;unfold pyNext;rcases h with⟨hz,a,b,g⟩|⟨i,f,k,l,hz,h0,n0,m,g⟩
 .refine wX (wpAny_attempt (wpAny_callSpecial?_slot M slot_zip_next (wpAny_call_entry slot_zip_next M entry_zip_next (AU U Z hz e g t1 t2 d q2 he λh' x hk hX=>?_) (args_zip_next_1 _))));obtain⟨o,O,co⟩:=hX;exact wX (wpAny_isInstance (b:=true) ⟨o,O,co⟩ isSubtype_stop (wY (q h' hk)))
 .refine wX (wpAny_attempt (wpAny_callSpecial?_slot M slot_zip_next (wpAny_call_entry slot_zip_next M entry_zip_next (HH U Z hz h0 e t1 t2 d q2 he λh' x hk hX=>?_) (args_zip_next_1 _))));obtain⟨o,O,co⟩:=hX;exact wX (wpAny_isInstance (b:=true) ⟨o,O,co⟩ isSubtype_stop (wY (q h' hk)))
end
def HL (h:a≠b):upd (upd H a o) b u=upd (upd H b u) a o:=by
 funext c;unfold upd;lia
def bL (h:H a=none):au H (upd H a o):=λb u e=>by rw[af (ar e h)];exact e
def EU (h:(gW ds es)[i]? = some d):(gW ds es).take (i+1)=(gW ds es).take i++[d]:=by
 rw[take_add_one,h];rfl
def zN:typeLookup (.type "zip") "__len__" = pure none:=I9
def xz:typeLookup (.type "zip") "__length_hint__" = pure none:=I9
section
variable {X:Cx}{aa:AO}{σ:St}{B H0:Hp}{A:Around}{R:Result->Shared->Prop}{k1 k2:Bool}{z TI TO i1 i2 l1 l2 S:Addr}{us ws:LV}{ds es:LD}
def EV (Q:A.handled=none)(Z:ZA z TI TO i1 i2 l1 l2)(h:S∉[z,TI,TO,i1,i2])(h1:jj k1 X.K B l1 us)(C:IsL X.K B us ds)(h2:jj k2 X.K B l2 ws)(D:IsL X.K B ws es)
  (hR:∀M N vs s',Inv X aa σ (upd M S (.lst vs)) s'->M S=none->Ext B N H0 M->IsL X.K N vs (gW ds es)->R (.ok (.ret .none)) s'):
  ∀(k i:Nat)(s:Shared)(M N:Hp)(vs:LV),(gW ds es).length - i=k->i<=(gW ds es).length->Inv X aa σ (upd M S (.lst vs)) s->M S=none->Ext B N H0 M->(∀b∈[z,TI,TO,i1,i2],eZ X aa (upd M S (.lst vs)) b) ->
   HI k1 k2 z TI TO i1 i2 l1 l2 S i s.heap->IsL X.K N vs ((gW ds es).take i) ->
   codeAny (model X.prog X.w) A (.builtin "list.extend.loop" ⟨[.ref S,.ref z,.none],[]⟩) R s:=by
 have n1:=C.length;have n2:=D.length;have nz:(gW ds es).length=min ds.length es.length:=by simp_all[gW]
 intro k;induction k with
 |zero=>
  intro i s M N vs hk hi I hc O fp st j;have OG:i=(gW ds es).length:=N9
  have a:au B (upd M S (.lst vs)):=(O.bn.trans O.nh).trans (bL hc);obtain⟨its,l,m,E⟩:=(h1.same a).vals I;obtain⟨T,n,p2,W⟩:=(h2.same a).vals I;have Y:=l.length;have e2:=n.length;refine codeAny_builtin PySem.F.entry_extend_loop ?_;rw[Around.under_plainId plain_extend_loop _];show wpAny _ A.in1 (pyNext (.ref z)>>=_) _ _ s;refine wX (HK (A:=A.in1) Q Z st m p2 ?_ λh' U=>?_)
  .by_cases q:ds.length<=es.length
   .left;simp;lia
   .right;simp;lia
  .refine wY (hR M N vs _ (gI (t':=s.toks) I fp U) hc O ?_);grind
 |succ k ih=>
  intro i s M N vs hk hi I hc O fp st j;have lH:i<(gW ds es).length:=N9
  have a:au B (upd M S (.lst vs)):=(O.bn.trans O.nh).trans (bL hc);obtain⟨its,l,m,E⟩:=(h1.same a).vals I;obtain⟨T,n,p2,W⟩:=(h2.same a).vals I;have d1:i<ds.length:=N9
  have d2:i<es.length:=N9
  obtain⟨x,hx,ix⟩:=C.get (vU d1);obtain⟨y,hy,iy⟩:=D.get (vU d2);obtain⟨u,hu,ru⟩:=l.get hx;obtain⟨v,hv,rv⟩:=n.get hy;have el:(gW ds es)[i]? = some (.tup [ds[i],es[i]]):=by
   simp_all[gW]
  obtain⟨zl,v7,c,p,ev0,G⟩:=I.lstM ae;have H:S<s.z:=vX G;refine codeAny_builtin PySem.F.entry_extend_loop ?_;show wpAny _ A.in1 (pyNext (.ref z)>>=_) _ _ s;refine wX (HJ (A:=A.in1) Z H st m p2 (by simpa using hu) (by simpa using hv) λh' FM hp U=>?_);have fr:upd M S (.lst vs) s.z=none:=I.hok.fresh (vT _);have r:s.z≠S:=ne_of_gt H;have d:M s.z=none:=by rw[af r]at fr;exact fr
  have new:aE X.prog X.w (upd (upd M S (.lst vs)) s.z (.tup [x,y])) h' s.z (.tup [x,y]):=⟨by show 2<=sizeLine;decide,[u,v],.cons ru (.cons rv .nil),⟨_,hp,r4,_,r4⟩⟩;have J:=wI (s:=s) (t':=s.toks) I fp U (vT _) new;rw[HL r.symm]at J;have g:=U S _ h G;have t:Ext B (upd N s.z (.tup [x,y])) H0 (upd M s.z (.tup [x,y])):=O.trans (Ext.laid O.nh d);have vl:vs.length=i:=by rw[j.length,length_take];lia
  have zs:=zl;refine wX ?_;have lz:(vs++[V.ref s.z]).length<=sizeLine:=by
   rw[vA,vl];have a1:=E;show i+1<=sizeLine;lia
  have L:=J.lset (t':=s.toks) (ys:=vs++[.ref s.z]) (its':=v7++[.ref s.z]) (f:=(·.push (Value.ref s.z))) ae g X9 (p.append (.cons (show aA (.ref _) (.ref _)from r4) .nil)) lz;rw[ko]at L;refine wpAny_updateSeq g r4 (wY ⟨plainId_quiet plain_extend_loop _,ih (i+1) _ _ _ (vs++[.ref s.z]) N9 lH L (by rw[af r.symm];exact hc) t (λb hb=>?_) (FM.keep h λb o hb e=>(Heap.get?_update_other _ _ (Ne.symm hb)).trans e) ?_⟩) W9 W9
  .obtain⟨P,f1,f2,f3,f4,f5⟩:=fp b hb;refine⟨?_,f1,f2,f3,f4,f5⟩;have nb:b≠S:=λe=>h (e ▸ hb);rw[af nb]at P |-;have nT:b≠s.z:=by
    obtain⟨hI,t1,t2,a4⟩:=st;obtain⟨o1,Y,_⟩:=t1.ob;obtain⟨o2,e2,_⟩:=t2.ob;have lt:∀ {c o},s.heap.get? c=some o->c≠s.z:=λe=>vS (vX e);grind
   rw[af nT];exact P
  .rw[EU el];exact(j.mono (Ext.laid O.nh d).bn).append (.cons (.tup (dM.of ae) (.cons (ix.mono t.bn) (.cons (iy.mono t.bn) .nil))) .nil)
end
section
variable {X:Cx}{aa:AO}{σ:St}{B H:Hp}{s:Shared}{k1 k2:Bool}{z TI TO i1 i2 l1 l2:Addr}{us ws:LV}{ds es:LD}
def qT (x:X.A.handled=none)(I:Inv X aa σ H s)(Z:ZA z TI TO i1 i2 l1 l2)(fp:∀b∈[z,TI,TO,i1,i2],eZ X aa H b)
  (y:IsPair s.heap TI (.ref i1) (.ref i2)) (t1:hJ k1 s.heap i1 l1 0) (t2:hJ k2 s.heap i2 l2 0) (hz:IsZip s.heap z TI TO .none) (C:IsPair s.heap TO a b)
  (D:au B H) (h1:jj k1 X.K B l1 us) (E:IsL X.K B us ds) (h2:jj k2 X.K B l2 ws) (G:IsL X.K B ws es)
  (q:∀(S:Addr)(d N:Hp)(vs:LV),d S=none->Ext B N H d->IsL X.K N vs (gW ds es)->Q (.ref S) (upd d S (.lst vs))):
  wq X (call (.type "list") [.ref z]) (EP X aa σ Q) X.xe s:=by
 have lt:∀ {c o},s.heap.get? c=some o->s.z≠c:=λe=>ne_of_gt (vX e);have M:s.z∉[z,TI,TO,i1,i2]:=by
  obtain⟨o1,e1,_⟩:=t1.ob;obtain⟨o2,e2,_⟩:=t2.ob;simp_all
 have r:s.z≠z:=lt hz;have k:HI k1 k2 z TI TO i1 i2 l1 l2 s.z 0 s.heap:=⟨y,t1,t2,.inl ⟨hz,a,b,C⟩⟩;have hc:H s.z=none:=I.fresh;refine callType_codes (Q₁:=λobj U=>obj=.ref s.z/\U={ s with heap:=s.heap.push { cls:=.type "list",data:=.seq #[] } }) called_list (PySem.F.typeCall_list_1 _) PySem.F.entry_list_init
  (code_list_new _ ⟨r4,r4⟩) λobj U g=>?_
 obtain⟨rfl,rfl⟩:=g;have h:(s.heap.push { cls:=.type "list",data:=.seq #[] }).get? s.z=some _:=vY _ r4;have J:=I.lnew (t':=s.toks) (its:=[]) .nil (uO _);have l:HI k1 k2 z TI TO i1 i2 l1 l2 s.z 0 (s.heap.push { cls:=.type "list",data:=.seq #[] }):=k.keep M λb o _ e=>vZ _ e;refine⟨⟨_,h,r4⟩,PySem.F.args_list_init_2 _ _,?_⟩;refine wX ?_;unfold Builtin.List.listItems;refine wX (wpAny_seqItems h r4 (wY ?_));refine wX (wpAny_updateSeq h r4 ?_);have i:=J.lset (t':=s.toks) (ys:=[]) (its':=[]) (f:=λ_=>#[]) ae h r4 .nil (uO _);have O:=l.keep (h':=(s.heap.push { cls:=.type "list",data:=.seq #[] }).update s.z (Obj.mapSeq λ_=>(#[]:AV))) M λb o hb e=>(Heap.get?_update_other _ _ (Ne.symm hb)).trans e;rw[ko]at i;generalize m:(s.heap.push { cls:=.type "list",data:=.seq #[] }).update s.z (Obj.mapSeq λ_=>(#[]:AV))=g2 at i O |-;obtain⟨_,L,c2,P,_,t⟩:=i.lstM ae;have e2:=P.zero;subst e2;refine wX (wpAny_letGo ?_);unfold Builtin.List.listExtendWith;refine wX (wpAny_typeOf (T:="zip") O.ty ?_);have n:Builtin.List.listSameRef (.ref s.z) (.ref z)=false:=by simp[Builtin.List.listSameRef,r]
 have R:(Value.type "zip" == Value.type "list")=false:=Z9
 have V:(Value.type "zip" == Value.type "tuple")=false:=Z9
 simp only[n,R,V,Bool.or_false,uW,if_false];have W:IsZip g2 z TI TO .none:=by
  rw[<-m];exact(Heap.get?_update_other _ _ r).trans (vZ _ hz)
 refine wX (wpAny_pyIter_zip W ?_);refine wX (wpAny_holding ?_);unfold Builtin.List.listLengthHint;refine wX (wpAny_specialOf (T:="zip") O.ty zN ?_);refine wX (wpAny_specialOf (T:="zip") O.ty xz ?_);refine wY ?_;refine wX (wpAny_rule ?_);refine wX ?_;refine wX (wpAny_updateSeq t r4 ?_);have j:=i.lset (t':=s.toks) (ys:=[.non]) (its':=[.none]) (f:=(·.push .none)) ae t r4 (.cons (show aA .non .none from r4) .nil) (by show 1<=sizeLine;decide);have u:=O.keep (h':=g2.update s.z (Obj.mapSeq (·.push .none))) M λb o hb e=>(Heap.get?_update_other _ _ (Ne.symm hb)).trans e;rw[ko]at j;generalize Y:g2.update s.z (Obj.mapSeq (·.push .none))=g3 at j u |-;obtain⟨_,adI,c3,v3,_,v⟩:=j.lstM ae;obtain⟨n3,rfl,r3⟩:=v3.one;cases r3
 refine wpAny_updateSeq (hz:=by simp<;>decide) v r4 ?_
 have w:=j.lset (t':=s.toks) (ys:=[]) (its':=[]) (f:=(·.pop)) ae v r4 .nil (uO _);have p:=u.keep (h':=g3.update s.z (Obj.mapSeq (·.pop))) M λb o hb e=>(Heap.get?_update_other _ _ (Ne.symm hb)).trans e;rw[ko]at w;refine wY ⟨plainId_quiet plain_extend_loop _,EV (A:=X.A.in1) (B:=B) (H0:=H) x Z M h1 E h2 G (λd N vs s' I' Nl xt il=>?_) _ 0 _ H B [] r4 (uO _) w hc (Ext.refl D) (λb hb=>?_) p .nil⟩
 .exact⟨r4,.ref s.z,_,I',r4,q _ d N vs Nl xt il⟩
 .obtain⟨f0,f1⟩:=fp b hb;refine⟨?_,f1⟩;grind[af]
end
@[simp] def fLZ (fa M:FE):FE:=λρ=>(L5 fa M ρ).map λds=>(.lst ds,true)
section
variable {X:Cx}{a b:Expr}{pos p pos2 p2:Pos}
def zO (v:X.calm=true)(hl:X.mg "list" = none)(hm:X.mg "zip" = none)(ha:JE X a fa)(hb:JE X b fb)(g:Gl X "list")(w:Gl X "zip")
  (hs:starEach [a,b] X.env=[(false,eval a X.env),(false,eval b X.env)]) (O:ce b X.env)
  (m:starEach [.Call (.Name "zip" p2) [a,b] [] pos2] X.env=[(false,eval (.Call (.Name "zip" p2) [a,b] [] pos2) X.env)]):
  JE X (.Call (.Name "list" p) [.Call (.Name "zip" p2) [a,b] [] pos2] [] pos) (fLZ fa fb):=by
 intro aa s σ H Q I q;obtain⟨B,ρ,d,bb,x,r,M,dZ⟩:=q;refine eB M λzs e e2=>?_;cases e2
 clear M;have M:=e;clear e;refine eX M λn ex M=>?_;refine eX M λt y M=>?_;refine eX M λxs A M=>?_;refine eB M λys C M=>?_;subst M;refine wpAny_Call_Name_kw (dn I g hl pi ?_ Z9 Z9);refine PyProof.Rows.callWith_type1 ?_ (by rw[m];rfl) r4;rw[m];refine Calls.spliced_cons ?_;refine wpAny_Call_Name_kw (dn I w hm NO ?_ Z9 Z9);refine PyProof.Rows.callWith_type1 (aV (ag ha (ag hb aB O) (by rw[bE,hs,O]) pos2 aa s σ H (λvs h=>∃N1,Ext B N1 H h/\IsL X.K N1 vs [n.1,t.1]) I ⟨B,ρ,[n.1,t.1],x,r,by simp[ak,aI,ex,y],λvs h N1 c i1=>⟨N1,c,i1⟩⟩) λus s1 ⟨vs,h,u,D,N1,c,E⟩=>?_) (by rw[hs,O]) (by rw[O];rfl);cases E with
 |cons F i=>
  cases i with
  |cons i G=>
   cases G
   obtain⟨k1,l1,L,rfl,h1,m1⟩:=rB F A;obtain⟨k2,l2,P,rfl,h2,m2⟩:=rB i C;obtain⟨u1,u2,rfl,R,j⟩:=D.two;cases R
   cases j
   refine wJ u (h1.same c.nh) (h2.same c.nh) λh' z TI TO i1 i2 J Z T V W Y c5 fp=>Calls.spliced_nil (qT (B:=N1) (u.ok.hd v) J Z fp V Y c5 T W c.nh h1 m1 h2 m2 λS Hc N vs k U l=>?_);have x3:=(c.trans U).trans (Ext.laid (o:=.lst vs) U.nh k);have f:=l.mono (Ext.laid (o:=.lst vs) U.nh k).bn;exact dZ _ _ _ x3 (.lst (dj.of ae) f) λ_=>⟨_,_,_,r4,r4,(c.trans U).hh.free k,ae,f⟩
end
end DL
namespace DL
open PySem PySem.Spec PyProof.Rows
def uA:typeLookup (.type "list") "keys" = pure none:=I9
def EW
  (hx:s.heap.get? a=some { cls:=.type "list",dict:=none,data:=.seq xs k,slots:=sl }) (U:A.handled=none)
  (h:∀h' tk,(∀b o,s.heap.get? b=some o->h'.get? b=some o)->Q none { s with heap:=h',toks:=tk }):
  wpAny (model prog w) A (getAttr? (.ref a) "keys") Q E s:=by
 obtain⟨hp,g,d,tk,os⟩:=s;have O:∀M,(⟨hp,g,d,M,os⟩:Shared).TypeIs (.ref a) "list":=λz=>⟨_,hx,r4⟩;have f1:=sub_AttributeError;have c:=slot_list_getattribute.lookup;have f:=slot_list_getattribute.bind (.ref a);have i:=am_list_getattr_none;unfold getAttr? getAttrBy? getAttrBy;repeat (any_goals (first|assumption|exact O _|((with_reducible show wpAny _ _ (call (Value.builtin "list.__getattribute__") _ _) _ _ _);refine call_meets slot_list_getattribute (O _) am_entry_list_getattribute (PySem.F.args_list_getattribute_2 _ _) (meets_getattribute_miss_list a xs k sl "keys" _ uA Z9 Z9) ⟨hx,U,λh' M e hx'=>?_⟩)|wp_step))
 obtain⟨t',u',he⟩:=hx'.there;show wpAny _ _ (getattributeRaised _ _ _ _ _ _ _) _ _ _;unfold getattributeRaised;repeat (any_goals (first|assumption|wp_step))
 exact h _ _ hx'.of.keeps
end DL
namespace DL
open PySem PySem.Spec PyProof.Rows L2
def iK:LD->Option (List (d8×D))
 |[]=>some []
 |.tup [k,v]::r=>(iI k).bind λM=>(iK r).map λl=>(M,v)::l
 |_=>none
noncomputable def zP (a:LK×LD)(p:d8×D):LK×LD:=(iJ a.1 p.1,gq a.1 a.2 p.1 p.2)
noncomputable def bV (l:List (d8×D)):LK×LD:=l.foldl zP ([],[])
def pC l p:bV (l++[p])=zP (bV l) p:=by simp_all[bV]
def xy1(h:iK (d::r)=some l):∃k v,d=.tup [k,v]:=by
 cases d with
 |tup ds=>rcases ds with z|⟨a,z|⟨b,z|⟨c,ds⟩⟩⟩<;>first|exact⟨_,_,rfl⟩|cases h
 |_=>cases h
theorem pD:∀ {ds:LD}{l:List (d8×D)},iK ds=some l->l.length=ds.length
 |[],l,h=>by cases h;rfl
 |d::r,l,h=>by
  obtain⟨k,v,rfl⟩:=xy1 h;refine eX h λO z h=>?_;obtain⟨l',h1,rfl⟩:=oY h;simp[pD h1]
theorem pE:∀ {ds:LD}{l:List (d8×D)}{i:Nat}{d:D},iK ds=some l->ds[i]? = some d->∃k v M,d=.tup [k,v]/\iI k=some M/\l[i]? = some (M,v)
 |[],l,i,d,_,h=>by simp at h
 |d0::r,l,i,d,h,hi=>by
  obtain⟨k,v,rfl⟩:=xy1 h;refine eX h λM h2 h=>?_;obtain⟨l',h1,rfl⟩:=oY h;cases i with
  |zero=>simp at hi;subst hi;exact⟨k,v,M,r4,h2,r4⟩
  |succ i=>simp only[List.getElem?_cons_succ]at hi |-;exact pE h1 hi
def HM (l:List (d8×D)):∀a:LK×LD,a.1.length=a.2.length->(l.foldl zP a).1.length=(l.foldl zP a).2.length/\(l.foldl zP a).1.length<=a.1.length+l.length:=by
 induction l with
 |nil=>simp
 |cons p l M=>
  intro a h;have h1:(zP a p).1.length<=a.1.length+1:=by
   show(iJ _ _).length<=_;unfold iJ;split<;>simp
  have:=M (zP a p) (la h _ _);rw[List.foldl_cons,vE];exact⟨this.1,N9⟩
theorem EY l:(bV l).1.length=(bV l).2.length/\(bV l).1.length<=l.length:=by
 have:=HM l ([],[]) r4;exact⟨this.1,vR this.2 X9⟩
def rX:entryFor table "dict.update.loop" = some Builtin.«dict.update.loop»:=entryFor_of_tree r9
def jk:plainId "dict.update.loop" = true:=O9
section
variable {X:Cx}{aa:AO}{σ:St}{B H0:Hp}{A:Around}{R:Result->Shared->Prop}{it l d:Addr}{us:LV}{ds:LD}{gw:List (d8×D)}
set_option tactic.hygienic true in
def zQ (Z:A.handled=none)(nl:l≠it)(nd:d≠it)(hl:dj X.K B l us)(H:IsL X.K B us ds)(hp:iK ds=some gw)
  (hR:∀M N vs ob s',Inv X aa σ (upd M d (.dK ((bV gw).1.zip vs) ob)) s'->M d=none->Ext B N H0 M->(bV gw).1.length=vs.length->IsL X.K N vs (bV gw).2->R (.ok (.ret .none)) s'):
  ∀(k i:Nat)(tk:Nat)(s:Shared)(M N:Hp)(vs:LV)(ob:Obj),ds.length - i=k->i<=ds.length->Inv X aa σ (upd M d (.dK ((bV (gw.take i)).1.zip vs) ob)) s->M d=none->Ext B N H0 M->eZ X aa (upd M d (.dK ((bV (gw.take i)).1.zip vs) ob)) it ->
   s.heap.IsListIter it l i->(bV (gw.take i)).1.length=vs.length->IsL X.K N vs (bV (gw.take i)).2 ->
   codeAny (model X.prog X.w) A (.builtin "dict.update.loop" ⟨[.ref d,.ref it,.int i tk,.none],[]⟩) R s:=by
 have n1:=H.length;have n2:=pD hp;intro k;induction k with
 |zero=>
  intro i tk s M N vs ob hk hi I hc O fp st hz m;have OG:i=ds.length:=N9
  have n:au B (upd M d (.dK ((bV (gw.take i)).1.zip vs) ob)):=(O.bn.trans O.nh).trans (bL hc);refine I.lisE (n.seq hl) λits p t z1=>?_;have e1:=p.length;refine codeAny_builtin rX ?_;rw[Around.under_plainId jk _];refine wX (wpAny_pyNext_list_end (A:=A.in1) Z st t.isList W9 λh' OH=>?_);refine wX (wY (wY ?_));have f:=gI (t':=s.toks) (h':=h') (ch:=[it]) I (λb hb=>by rw[uU hb];exact fp) λb o hb e=>OH b o (λq=>hb (by simp[q])) e;rw[OG,<-n2,List.take_length]at f hz m;exact hR M N vs ob _ f hc O hz m
 |succ k ih=>
  intro i tk s M N vs ob hk hi I hc O fp st hz m;have U:i<ds.length:=N9
  have n:au B (upd M d (.dK ((bV (gw.take i)).1.zip vs) ob)):=(O.bn.trans O.nh).trans (bL hc);refine I.lisE (n.seq hl) λits p t z1=>?_;obtain⟨kd,J,g,ed,ek,el⟩:=pE hp (vU U);obtain⟨x,hx,L⟩:=H.get (vU U);rw[ed]at L;cases L with
  |@tup T xs _ hT XM=>
   cases XM with
   |cons ik r=>
    cases r with
    |cons iv r=>
     cases r
     rename_i xk P;have v:=mJ ik ek;subst v;obtain⟨u,hu,ru⟩:=p.get hx;cases (show u=Value.ref T from ru)
     refine codeAny_builtin rX ?_;rw[Around.under_plainId jk _];refine wX (wpAny_pyNext_list_item (A:=A.in1) st t.isList (x:=.ref T) (by simpa using hu) λh' FM hs=>?_);have f:=gI (t':=s.toks) (h':=h') (ch:=[it]) I (λb hb=>by rw[uU hb];exact fp) λb o hb e=>hs.extBut b o (λq=>hb (by simp[q])) e;refine f.tupE (aG n hT) λps r2 p2 z2=>?_;obtain⟨uk,uv,rfl,rk,rv⟩:=r2.two;have y:Shared.TypeIs { s with heap:=h' } (.ref T) "tuple":=by obtain⟨o,e,c,_⟩:=p2;exact⟨o,e,c⟩
     dsimp only;refine wX (wpAny_holding (wX (wpAny_tryCatch ?_)));unfold Builtin.Dict.pairItems;refine wX (wpAny_typeOf y ?_);obtain⟨oT,eT,cT,nT,dT⟩:=p2;rw[if_pos Z9];refine wX (wpAny_seqItems eT dT (wY ?_));obtain⟨zz,z,C,lG,dd⟩:=oW f.hok (a:=d) ae;have E:C.length<=sizeLine:=by rw[<-lG.length];exact zz
     have nk:((bV (gw.take i)).1.zip vs).length<sizeLine:=by
      grind[EY]
     refine wpAny_holding (wpAny_dictSet_pairs (hsz:=E) (oS rk) dd λh2 h Q=>?_);have R9:(lO ((bV (gw.take i)).1.zip vs) g P).length<=sizeLine:=by grind[ig]
     obtain⟨F,S⟩:∃q,h2.get? d=some q:=let ⟨q,_,_,hq,_⟩:=h;⟨q,hq⟩;have V:=tT (t':=s.toks+1) f (a:=d) (by rw[ae];exact True.intro) Q ⟨_,S⟩ (Gr R9 z (lG.put g rv) h S);rw[ko,oq hz]at V;have W:gw.take (i+1)=gw.take i++[(g,J)]:=by rw[take_add_one,el];rfl
     have j:(bV (gw.take (i+1))).1=iJ (bV (gw.take i)).1 g:=by rw[W,pC];rfl
     have G:(bV (gw.take (i+1))).2=gq (bV (gw.take i)).1 (bV (gw.take i)).2 g J:=by rw[W,pC];rfl
     refine wY ⟨plainId_quiet jk _,?_⟩;refine ih (i+1) 0 _ M N (gq (bV (gw.take i)).1 vs g P) F N9 U (by rw[j];exact V) hc O ?_ ?_ ?_ ?_
     .obtain⟨Y,f1⟩:=fp;refine⟨?_,f1⟩;rw[af nd.symm]at Y |-;exact Y
     .exact FM.at λo e=>(Q.2 it nd.symm).trans e
     .rw[j];exact la hz _ _
     .rw[G];exact m.put (iv.mono O.bn)
end
@[simp] def lb:LD->OB
 |[.lst ds]=>(iK ds).map λM=>(.dk (bV M).1 (bV M).2,false)
 |_=>none
def Qq:bootBuiltins "dict" = some (.type "dict"):=O9
section
variable {X:Cx}
set_option tactic.hygienic true in
def Qr (x:X.calm=true):aY X (.type "dict") (wl X.K lb):=by
 intro aa s σ H xs us Q I r h;refine cX λY Z=>?_;obtain⟨B,y,d0,S,j,z,U,q⟩:=h;apply Z;cases z with
 |nil=>simp[lb]at U
 |cons i1 i2=>
  cases i2 with
  |cons _ _=>cases i1<;>simp[lb]at U
  |nil=>
   cases i1<;>try (simp[lb]at U;done)
   rename_i l ws ds hl C;simp only[lb]at U;refine eB U λk hp U=>?_;cases U
   obtain⟨u,rfl,D⟩:=cZ r;cases D
   have m:X.A.handled=none:=I.ok.hd x;refine callType_codes (Q₁:=λobj O=>obj=.ref s.z/\O={ s with heap:=s.heap.push _ }) PySem.F.kt_called_dict (PySem.F.kt_typeCall_dict_1 _) PySem.F.entry_dict_init (kt_code_dict_new _ ⟨r4,r4⟩) ?_;rintro obj O ⟨rfl,rfl⟩;have n:=I.laid (t':=s.toks) (λb o e=>vZ _ e) (vT _) (wg s.heap I.big);have a:H s.z=none:=I.fresh;refine⟨⟨_,vY _ r4,r4⟩,PySem.F.args_dict_init_2 _ _,?_⟩;unfold Builtin.«dict.__init__»;refine wX ?_;unfold Builtin.Dict.selfAndRest;refine wX (wpAny_notOrdered_dict ⟨_,vY _ r4,r4⟩ ?_);refine wY ?_;show wpAny _ _ (Builtin.Dict.updateFrom "dict.__init__" s.z (.ref l) [] .none) _ _ _;unfold Builtin.Dict.updateFrom;have E:au B (upd H s.z (.dK [] { cls:=.type "dict",data:=.dict #[] })):=j.trans (bL a);refine cX λY Z=>?_;refine n.lisE (E.seq hl) λits T t V=>?_;have pl:=t.isList;obtain⟨v,nl,M,cl,c,dl⟩:=t;apply Z;have f:Shared.TypeIs _ (.ref l) "list":=⟨v,M,cl⟩;refine wX (wpAny_typeOf f ?_);rw[if_pos Z9];obtain⟨oc,od,W,os⟩:=v;simp only at cl c dl;subst cl c dl;refine wX (EW M (by exact m) λh' tk hk=>?_);dsimp only[Option.isNone_none];rw[if_pos r4];have g:=n.kept (t':=tk) hk;refine wX (wpAny_rule ?_);refine wX (wpAny_pyIter_list (items:=its.toArray) ⟨_,hk _ _ M,r4,nl,r4⟩ ?_);have ld:s.z<h'.objs.size:=vX (hk _ _ (vY _ r4));have J:l<h'.objs.size:=vX (hk _ _ M);refine wY ⟨plainId_quiet jk _,zQ (A:=X.A.in1) (B:=B) (H0:=H) (l:=l) (d:=s.z) (it:=h'.objs.size) m (vS J) (vS ld) hl C hp (λY N vs ob s' L w i hz P=>?_) _ 0 0 _ H B [] _ r4 (uO _) (g.kept (t':=tk) λb o e=>vZ _ e) a (Ext.refl j) (g.fpOk (vT _) (g.hok.fresh (vT _))) ⟨_,vY _ r4,r4,r4⟩ r4 .nil⟩;refine⟨r4,.ref s.z,_,L,r4,?_⟩;have R:=i.trans (Ext.laid (o:=.dK ((bV k).1.zip vs) ob) i.nh w);exact q _ _ _ R (.dk ae hz (P.mono (Ext.laid (o:=.dK ((bV k).1.zip vs) ob) i.nh w).bn)) X9
end
@[simp] def NY:FE:=λz=>none
def NZ (h:n+40<cLine):n+1<cLine:=N9
section
variable {X:Cx}{e tg:Expr}
def Mb:JE X e NY:=λaa s σ H Q I h=>by obtain⟨B,ρ,d,b,z,z,e,z⟩:=h;cases e
end
def le:LD->Option LK
 |[]=>some []
 |d::ds=>(iI d).bind λk=>(le ds).map (k :: ·)
theorem zR {K:Frag}{vs:LV}{ds:LD}{ks:LK}(h:IsL K B vs ds):le ds=some ks->vs=ks.map kV:=by
 induction h using IsL.ind generalizing ks with
 |n=>intro e;cases e;rfl
 |s i _ n=>
  intro e;refine eX e λk h1 e=>?_;obtain⟨r,h2,rfl⟩:=oY e;rw[mJ i h1,n h2];rfl
@[simp] def Oa (fo:FE)(fa:FA):FE:=λρ=>(fo ρ).bind λx=>(fa ρ).bind λds=>match x.1 with
 |.dt M vs=>if ds.length<=sizeLine then (le ds).map λk=>((j7 M vs k).getD .non,false)else none
 |_=>none
section
variable {X:Cx}{o:Expr}{es:QD}{pos:Pos}
def HN(hu:X.A.units+1<cLine)(i:JE X o fo)(ha:JA X es fa)(m:M1 X o "get" aW (.Tuple es U O) aO):JE X (.Call (.Attribute o "get" aW) [.Tuple es U O] [] aO) (Oa fo fa):=by
 refine PE.to (wj hu i (tE ha) m) λσ H Q q=>?_;refine cX λG K=>?_;obtain⟨B,ρ,d,u,j,r,M,q⟩:=q;refine eX M λx ex M=>?_;refine eX M λds l M=>?_;apply K;refine⟨B,ρ,x.1,x.2,j,r,ex,λv w N1 U i1 y=>?_⟩;obtain⟨xd,z⟩:=x;cases i1 with
 |@dt a ks vs C h hl hs=>
  simp only at M;split at M
  .rename_i hz;refine eB M λk hk M=>?_;cases M
   refine⟨a,r4,.inr ⟨_,.inl (U.nh _ _ h)⟩,N1,ρ,ds,U.nh,r.mono U.bn,l,λus H2 N2 c i2=>?_⟩;have n:=zR i2 hk;refine⟨by rw[i2.length];exact hz,λp hp=>?_⟩;have b:=Ext.laid (o:=.tup us) c.nh hp;have f:=c.bn _ _ h;refine⟨ie _ k,.inr ⟨_,k,p,.inl (b.nh _ _ (b.bn _ _ f)),r4,by rw[ae,n],r4⟩,?_⟩;have s:=(hs.mono c.bn).mono b.bn;rcases pB k hl s with⟨v,d',g,e2,t⟩|⟨g,e2⟩
   .rw[g];rw[e2]at q;exact(q.into ((U.trans c).trans b)).one b.nh t
   .rw[g];rw[e2]at q;exact(q.into ((U.trans c).trans b)).one b.nh .non
  .cases M
 |_=>simp at M
end
section
variable {K:Frag}{E:Ends}{σ:St}{H:Hp}
def Bn (i:Nat)(O:FA)(U:FE):FS:=λρ=>match ρ[i]? with
 |some (some (.dt ks vs,true))=>(U ρ).bind λv=>(O ρ).bind λkd=>(le kd).bind λM=>if bc v.1=true/\ks.length<sizeLine/\kd.length<=sizeLine then some (.nx (ρ.set i (some (.dt (iJ ks M) (gq ks vs M v.1),true))))else none
 |_=>none
set_option tactic.hygienic true in
def HP {i:Nat}{O:FA}{U:FE}(q:jw K (Bn i O U) E σ H):AE (kq i) (Ta (RQ K O)) (tD K U) E σ H:=by
 refine cX λG W=>?_;obtain⟨B0,H0,ρ,r,⟨N,s⟩,e,p⟩:=q;apply W;clear W;unfold Bn at e;split at e
 .rename_i ks ds ei;refine eX e λv ev e=>?_;refine eX e λkd ek e=>?_;refine eX e λd hk e=>?_;split at e
  .rename_i hx;cases e
   refine⟨N,ρ,v.1,v.2,s.ext.nh,s.rep,ev,λj k N1 f i1 _=>?_⟩;have s1:=s.grow f;obtain⟨a,o,h1,h2,h3,h4⟩:=s1.ow i _ ei;refine⟨.ref a,h1,N1,ρ,kd,s1.ext.nh,s1.rep,ek,λus H2 N2 b i2=>?_⟩;have s2:=s1.grow b;have g:=zR i2 hk;refine⟨by rw[i2.length];exact hx.2.2,λpp hp=>?_⟩;have c:=Ext.laid (o:=.tup us) s2.ext.nh hp;have M:=s2.grow c;obtain⟨l,o',k1,k2,k3,h⟩:=M.ow i _ ei;rw[h1]at k1;cases k1
   cases h with
   |@dt ks vs ds hl h5=>
    refine⟨a,r4,.inr ⟨_,d,pp,M.ext.nh _ _ k2,r4,by rw[ae,g],?_,?_⟩⟩
    .rw[length_zip];lia
    .rw[oq hl];exact p σ _ ⟨_,M.writeB ei h1 (.dt (la hl _ _) (h5.put (M.flat ((i1.mono b.bn).mono c.bn) hx.1)))⟩
  simp_all
 simp_all
end
section
variable {X:Cx}{pos:Pos}{e:Expr}{es:QD}
def Mc (hu:X.A.units+1<cLine)(U:JE X e fv)(hk:JA X es fk)(a:X.N[i]? = some y)(M:Kf X.env.scope y)(hd:aS y)
  (O:km y) (hs:swapsWith e (some (.Subscript (.Name y py) (.Tuple es x1 R8) pt)) pos.line X.env=pure false):JS X (.Assign [.Subscript (.Name y py) (.Tuple es x1 R8) pt] e pos) (Bn i fk fv):=
 PS.to (tU hu (aF a M hd O) (tE hk) U hs) λz z z=>HP
end
end DL
namespace L2
open PySem PySem.Spec PyProof.Rows
noncomputable def YE (a:Addr)(ay:List (d8×V))(ob:Obj):It:=⟨λi H=>H a=some (.dK ay ob)/\i<ay.length,λi H x H'=>H'=H/\∃k,ay[i]? = some (k,x),λi H=>H a=some (.dK ay ob)/\ay.length<=i⟩
def KV.get(r:KV ay vs){i:Nat}{k:d8}(h:ay[i]? = some (k,x)):∃u,vs[i]? = some (k,u)/\aA x u:=by
 induction r generalizing i with
 |nil=>simp at h
 |@cons p q ps U hq t M=>
  cases i with
  |zero=>
   cases (show p=(k,x)from vK h)
   obtain⟨O,q2⟩:=q;exact⟨q2,by rw[show k=O from hq.1];rfl,hq.2⟩
  |succ i=>exact M h
def Ud (h:(bR P w).is k u=true):aA (kV k) u:=by
 cases k with
 |inl i=>exact Value.isInt_shape h
 |inr z=>exact Value.isStrOf_shape h
section
variable {P:Program}{w:World}{H:Hp}{h:Heap}{a:Addr}
def pF (ok:gy P w H h)(e:H a=some (.dK ay ob))(hd:ob.data=.dict es U):∃vs,KV ay vs/\h.DictAt (bR P w) a vs U:=by
 refine cX λG g=>?_;obtain⟨z,z,vs,r,o,M,O,h1,h2,h3,h4⟩:=oW ok e;apply g;rw[yU ok e]at h1;cases h1
 rw[hd]at h3;cases h3
 exact⟨vs,r,ob,es,yU ok e,h2,hd,h4⟩
def uB (ok:gy P w H h)(e:H a=some (.dK ay ob)):∃es M,ob.data=.dict es M:=by
 refine cX λG g=>?_;obtain⟨z,z,vs,r,o,O,U,h1,h2,h3,h4⟩:=oW ok e;apply g;rw[yU ok e]at h1;grind
end
def EZ {P:Program}{w:World}{K:Frag}{tg:Expr}(a it:Addr)(ay:List (d8×V))(ob:Obj){es:Array DictEntry}{t:Nat}(hd:ob.data=.dict es t):Turn P w K tg (YE a ay ob) [it] it (λi h=>h.IsValIter it a i ay.length t) where
 mem:=X9
 obj:=λi h st b hb=>by
  have e:b=it:=by simpa using hb
  subst e;obtain⟨o,e,c,d⟩:=st;simp_all
 keep:=λi h h' st k=>st.at λo e=>k it X9 o e
 item:=by
  intro X U hw f hc i aa s σ H E I hf st g;subst U hw f;refine cX λG W=>?_;obtain⟨j,O⟩:=g;obtain⟨vs,r,m⟩:=pF I.hok j hd;obtain⟨l,f1,f2,n,p,q⟩:=hf it X9;apply W;clear W;have hl:vs.length=ay.length:=(Paired.length r).symm;obtain⟨u,hu,ru⟩:=r.get (k:=ay[i].1) (x:=ay[i].2) (vU O);refine wpAny_pyNext_values_item (by rw[hl];exact st) m hu λh' M v=>?_;rw[hl]at M;have y:=I.turned (t':=s.toks) (λb o hb e=>(v.2 b hb).trans e) l f1 n p q;obtain⟨o,e,c,d⟩:=id M;exact⟨u,r4,re (s:={ s with heap:=h' }) e c d Z9 ⟨ay[i].2,H,y,ru,⟨r4,ay[i].1,vU O⟩,M,λb hb=>(hf b hb).1⟩⟩
 done:=by
  intro X U hw f hc i aa s σ H E I hf st g;subst U hw f;refine cX λG W=>?_;obtain⟨j,A⟩:=g;obtain⟨vs,r,m⟩:=pF I.hok j hd;obtain⟨l,f1,f2,n,p,q⟩:=hf it X9;apply W;clear W;have hl:vs.length=ay.length:=(Paired.length r).symm;exact wpAny_pyNext_values_end (I.ok.hd hc) (by rw[hl];exact st) m (getElem?_eq_none N9) λh' z=>⟨r4,I.turned (t':=s.toks) (λb o hb e=>z b o hb e) l f1 n p q⟩
 self:=λZ Z Z Z Z st h=>wpAny_pyIter_valiter st h
section
variable {X:Cx}{tg:Expr}
def Ue (td:TE):TI:=λσ H R=>td σ H λx M=>∃a ay ob,x=.ref a/\M a=some (.dK ay ob)/\R (YE a ay ob) M
def Md {o:Expr}{td:TE}{aW aO:Pos}(i:PE X o td)(M:autoParam (attributeBase o "values" X.env (eval o X.env)=eval o X.env) I9._auto_1)(O:autoParam ((aW.endLine == aO.line)=true) I9._auto_1):PI X tg (.Call (.Attribute o "values" aW) [] [] aO) (Ue td):=by
 intro aa s σ H R I h;refine wpAny_Call_method0_late M O (aV (i aa s σ H _ I h) λv s1 ⟨x,f,U,g,a,ay,ob,ex,c,q⟩=>?_);subst ex;obtain⟨h1,h2⟩:=tP U g (T:="dict") (.inr (.inr (.inl ⟨r4,.inl ⟨ay,ob,c⟩⟩)));cases g
 obtain⟨es,j,hd⟩:=uB U.hok c;obtain⟨vs,r,m⟩:=pF U.hok c hd;have hl:=(Paired.length r).symm;refine⟨"dict","dict.values",plainAttrs_dict,PySem.F.slot_dict_values,PySem.F.type_dict_values,h1,h2,Calls.callWith_builtin r4 (PySem.evalArgs_none ?_)⟩;refine call_meetsIn PySem.F.slot_dict_values h1 PySem.F.entry_dict_values (PySem.F.args_dict_values_1 _) (meets_dict_values _ a (oW U.hok c).2.1) ⟨⟨vs,m.dictOf⟩,?_⟩;have d:Inv X aa σ f { s1 with heap:=s1.heap.push { cls:=.type "dict_values",data:=.fields #[.ref a] } }:=U.kept λb o e=>vZ _ e;refine wpAny_pyIter_values ⟨_,vY _ r4,r4,r4⟩ (m.keep λb o e=>vZ _ e) ?_;rw[hl];refine⟨(s1.heap.push _).objs.size,[(s1.heap.push _).objs.size],_,_,f,r4,d.kept λb o e=>vZ _ e,EZ a _ ay ob hd,⟨_,vY _ r4,r4,r4⟩,λb hb=>?_,q⟩;have e:b=(s1.heap.push { cls:=.type "dict_values",data:=.fields #[.ref a] }).objs.size:=by simpa using hb
 subst e;exact d.fpOk (vT _) (d.hok.fresh (vT _))
end
end L2
namespace DL
open PySem PySem.Spec PySem.W PyProof.Rows L2
noncomputable def kD:d8->D
 |.inl i=>.int i
 |.inr z=>.str z
def Uf {K:Frag}{B:Hp}k:Is K B (kV k) (kD k):=by
 cases k with
 |inl i=>exact .int i
 |inr z=>exact .str z
section
variable {K:Frag}{B:Hp}
def Me{ks:LK}{vs:LV}{ds:LD}{ob:Obj}(h:B a=some (.dK (ks.zip vs) ob))(hl:ks.length=vs.length)(hs:IsL K B vs ds):iq K (YE a (ks.zip vs) ob) B ds:=by
 intro i H s;have hz:(ks.zip vs).length=vs.length:=by rw[length_zip];lia
 refine⟨λd ed=>?_,λM=>⟨s _ _ h,by rw[hz,hs.length];exact M⟩⟩;obtain⟨v,ev,iv⟩:=hs.get ed;refine⟨⟨s _ _ h,by rw[hz];exact (vV ev).1⟩,λy U hy=>?_⟩;obtain⟨rfl,k,e⟩:=hy;have:=(getElem?_zip_eq_some.mp e).2;rw[ev]at this;cases this
 exact⟨B,.refl s,iv⟩
end
section
variable {X:Cx}{e:Expr}{tg:Expr}
@[simp] noncomputable def HQ (f:FE):FA:=λρ=>(f ρ).bind λx=>match x.1 with|.dk _ ds=>some ds|_=>none
def Mf (h:JE X e f)(M:attributeBase e "values" X.env (eval e X.env)=eval e X.env)(O:(aW.endLine == aO.line)=true):JI X tg (.Call (.Attribute e "values" aW) [] [] aO) (HQ f):=by
 intro aa s σ H R I q;refine cX λG K=>?_;obtain⟨B,ρ,ds,b,r,c,q⟩:=q;obtain⟨⟨xd,g⟩,ex,es⟩:=oX c;apply K;cases xd<;>try (cases es;done)
 cases es
 refine Md h M O _ s σ H R I ⟨B,ρ,_,_,b,r,ex,λv d N1 U i1 z=>?_⟩;cases i1 with
 |@dk a ks vs ds ob hd hl hs=>exact⟨a,_,ob,r4,U.nh _ _ hd,q _ d N1 U (Me hd hl hs)⟩
end
end DL
namespace DL
open PySem PySem.Spec PyProof.Rows L2
def eN (F:Fn X.prog X.w X.K X.mg X.base k x f)(O:bB j X.A)(ha:JA X (e::es) fa)(hj:autoParam (k<=j) Z9._auto_1)(U:autoParam (Gl X x) I9._auto_1)(M:autoParam (aS x) Z9._auto_1)(he:autoParam (bE e es X.env) I9._auto_1)(hpl:autoParam (dL pos es X.env) I9._auto_1):JE X (.Call (.Name x p) (e::es) [] pos) (fA f fa):=Lm F (O.mono hj) ha U M he hpl
def HR (h1:autoParam (∀y∈scope.names,y.2≠.cell) O9._auto_1)(h2:autoParam (scope.kind=.function) I9._auto_1)(h3:autoParam (∀y∈scope.names,y.2=.local->scope.names.lookup y.1=some .local) O9._auto_1)(M:autoParam ((scope.names.all λy=>!(y.2 == NameKind.free) || (X.env.cells.lookup y.1).isSome)=true) I9._auto_1):CompSc X scope (cc scope.names X.env.cells []):=P2 h1 h2 h3 M
def YF (h1:N'[j]? = some x)(h2:X.N[i]? = some x)(t:hG X N' scope (cc scope.names X.env.cells []) (j+1) r)(h3:X.env.kindOf x=some .cell\/X.env.kindOf x=some .free:=by exact Or.inl r4)(h4:(relabel scope X.env).names.lookup x=some .cell\/(relabel scope X.env).names.lookup x=some .free:=by exact Or.inl r4)(hf:autoParam ((x,NameKind.free)∈scope.names) O9._auto_1)(hc:autoParam ((X.env.cells.lookup x).isSome=true) I9._auto_1):hG X N' scope (cc scope.names X.env.cells []) j (i::r):=.cons h1 h2 h3 h4 (nQ hf hc) t
end DL
namespace DL
open PySem PySem.Spec PySem.W PyProof.Rows L2
def nH:At->D
 |.i n=>.int n
 |.s z=>.str z
section
variable {prog:Program}{w:World}{A:Around}{E:QV}{s:Shared}
def Ug (hx:yC x u)(hy:yC y v):SeqAt.EqAt A s u v (ge (nH x) (nH y)):=by
 cases x with
 |i a=>
  obtain⟨t,rfl⟩:=hx;cases y with
  |i c=>obtain⟨t',rfl⟩:=hy;exact SeqAt.EqAt.int_int _ _ _ _
  |s c=>obtain⟨t',rfl⟩:=hy;exact SeqAt.EqAt.int_str _ _ _ _
 |s a=>
  obtain⟨t,rfl⟩:=hx;cases y with
  |i c=>obtain⟨t',rfl⟩:=hy;exact SeqAt.EqAt.str_int _ _ _ _
  |s c=>obtain⟨t',rfl⟩:=hy;rw[show ge (nH (.s a)) (nH (.s c))=decide (a=c)from f9 _ _];exact SeqAt.EqAt.str_str _ _ _ _
theorem Bo {xs ys:List At}{vs:LU}(h:Paired yC xs vs)(j:Paired yC ys vs):xs=ys:=by
 induction h generalizing ys with
 |nil=>cases j;rfl
 |@cons x _ _ _ p _ n=>cases j with|@cons y _ _ _ q M=>
  rw[n M];cases x<;>(obtain⟨t,rfl⟩:=p;cases y<;>(obtain⟨t',e⟩:=q;cases e;try rfl))
def Qs x y:ge (nH x) (nH y)=true↔x=y:=by
 cases x<;>cases y<;>simp[nH]
theorem ot:∀xs ys:List At,gD (xs.map nH) (ys.map nH)=true↔xs=ys
 |[],[]=>by simp
 |[],_::_=>by simp
 |_::_,[]=>by simp
 |x::xs,y::ys=>by
  rw[uZ,uZ,gD,vD,Qs,ot xs ys];simp
def Qt (hx:eK s.heap xs x)(hy:eK s.heap ys y)(hu:A.units<cLine):SeqAt.EqAt A s x y (gD (xs.map nH) (ys.map nH)):=by
 obtain⟨a,o,its,n,rfl,f,hc,hd,r⟩:=hx;obtain⟨b,o',M,m,rfl,O,U,g,e⟩:=hy;by_cases c:a=b
 .grind[Bo,ot,SeqAt.EqAt.same]
 .have t1:s.heap.IsTuple a its:=⟨o,f,hc,n,hd⟩;have t2:s.heap.IsTuple b M:=⟨o',O,U,m,g⟩;have l1:xs.length=its.size:=by exact dw r
  have l2:ys.length=M.size:=by exact dw e
  have he:∀j (h1:j<its.size) (h2:j<M.size),SeqAt.EqAt A.in1 s its[j] M[j] (ge ((xs.map nH).getD j .non) ((ys.map nH).getD j .non)):=λj h1 h2=>by
   have p:=cV (.i 0) Value.none r (i:=j) N9;have q:=cV (.i 0) Value.none e (i:=j) N9;have d:its.toList.getD j Value.none=its[j]:=by simp_all
   have e2:M.toList.getD j Value.none=M[j]:=by simp_all
   rw[d]at p;rw[e2]at q;have h:(xs.map nH).getD j .non=nH (xs.getD j (.i 0)):=by simp_all
   have k:(ys.map nH).getD j .non=nH (ys.getD j (.i 0)):=by simp_all
   rw[h,k];exact Ug p q
  have rc:=SeqAt.RcAt.tuples t1 t2 hu he;have l:((List.range (min its.size M.size)).all (λj=>ge ((xs.map nH).getD j .non) ((ys.map nH).getD j .non)) && its.size == M.size)=gD (xs.map nH) (ys.map nH):=by
   rw[<-l1,<-l2];by_cases hl:xs.length=ys.length
   .rw[<-hl,Nat.min_self,beq_self_eq_true,Bool.and_true];have:=gE _ (xs:=xs.map nH) (ys:=ys.map nH) (by simpa using hl) λj x y d e2=>ul j x y d e2;rwa [vI]at this
   .rw[uj (by simpa using hl),beq_eq_false_iff_ne.mpr hl,Bool.and_false]
  rw[l]at rc;exact SeqAt.EqAt.of_refs c rc
theorem Fa xs:aZ xs xs=some false:=by
 induction xs with
 |nil=>rfl
 |cons x xs M=>cases x<;>rw[aZ,if_pos r4,M]
def HS (hx:eK s.heap xs x)(hy:eK s.heap ys y)(h:aZ (.i n::xs) (.i m::ys)=some b)(hu:A.units<cLine)(q:Q b s)(hn:yC (.i n) u)(hm:yC (.i m) v):KatLex prog w A true false Q [(u,v),(x,y)] 0 s:=by
 obtain⟨t,rfl⟩:=hn;obtain⟨t',rfl⟩:=hm;refine kat_cons (wpAny_eqBool_int ?_);rw[aZ]at h;by_cases e:n=m
 .rw[if_pos e]at h;rw[show(n == m)=true by simp[e]];refine kat_yes (kat_cons (Qt hx hy hu _ _ _ _ ?_));by_cases e2:xs=ys
  .grind[ot,Fa,kat_yes,kat_nil]
  .rw[Bool.eq_false_iff.mpr λz=>e2 ((ot xs ys).mp z)];refine kat_no (kat_one _ _ ?_);exact Hw hx hy h hu (by first|exact q|exact⟨b,r4,q⟩)
 .rw[if_neg e]at h;cases h
  rw[show(n == m)=false by simp[e]];exact kat_no (oneLt_int q)
end
inductive Fb (h:Heap)(xs:List At)(v:Value):Prop|mk n k a o its m u x:xs=.i n::k->v=.ref a->h.get? a=some o->o.cls=.type "tuple"->o.data=.seq its m->its.toList=[u,x]->yC (.i n) u->eK h k x->Fb h xs v
section
variable {prog:Program}{w:World}{A:Around}{E:QV}{s:Shared}
def Mg (hx:Fb s.heap xs x)(hy:Fb s.heap ys y)(h:aZ xs ys=some b)(hu:A.units<cLine)(q:Q b s):wpAny (model prog w) A (keyLt' (tuples' true) x y) Q E s:=by
 obtain⟨n,k,a,o,its,m,u,e,rfl,rfl,d,z,hd,ei,an,tx⟩:=hx;obtain⟨f,k',g,o',its',i,u',j,rfl,rfl,O,z,U,M,c,ty⟩:=hy;refine kat_lt d hd O U ?_;rw[ei,M];have hf:decide (its.size<its'.size)=false:=by
  rw[<-vG,<-vG,ei,M];rfl
 rw[hf];exact HS tx ty h hu q an c
theorem mK {ks:List (List At)}{vs:LU}(j:Paired (Fb h) ks vs):∃fs,KatTups h vs fs/\fs.length=ks.length/\∀v∈fs,∃n,yC (.i n) v:=by
 induction j with
 |nil=>exact⟨[],trivial,r4,X9⟩
 |cons x t i=>obtain⟨fs,h1,h2,h3⟩:=i;obtain⟨n,k,a,o,its,m,u,O,rfl,rfl,M,hc,hd,ei,an,_⟩:=x;refine⟨u::fs,KatTups.cons M hc hd (by rw[<-Array.getElem?_toList,ei];rfl) h1,by simp[h2],λv U=>?_⟩;grind
def Fc (hp:Paired (Fb s.heap) ks vs)(hn:0<ks.length)(q:Q (tuples' true) s):wpAny (model prog w) A (keyKind' vs.toArray) Q E s:=by
 obtain⟨fs,h1,h2,h3⟩:=mK hp;refine kat_kind (T:=.type "int") h1 N9 (λv M=>?_) Z9 q;obtain⟨n,t,rfl⟩:=h3 v M;exact .now
def HU (hc:fB ks=true)(hu:A.units<cLine)(hp:Paired (Fb s.heap) ks vs):∀(i j)C s1,i<ks.length->j<ks.length->s1=s->(∀s',s'=s->C (p0 (Ki ks) i j) s')->kas_ask prog w A (tuples' true) vs i j C s1:=by
 intro i j C s1 hi hj e O;subst e;refine Mg (cV [] _ hp hi) (cV [] _ hp hj) (dW hc (by simp_all) (by simp_all)) hu ?_;have:=O s1 r4;unfold p0 Ki at this;rw[xm (mem_map.mpr ⟨_,(by simp_all),r4⟩)]at this;exact this
end
def Uh:D->Option (List At)
 |.tup [.int n,.tup es]=>(jR es).map (.i n :: ·)
 |_=>none
def pG:LD->Option (List (List At))
 |[]=>some []
 |d::ds=>(Uh d).bind λa=>(pG ds).map (a :: ·)
theorem rY:∀ {ds:LD}{ks:List (List At)},pG ds=some ks->ks.length=ds.length
 |[],_,h=>by simp_all[pG]
 |d::ds,_,h=>by
  refine eX h λa h1 h=>eB h λr h2 h=>?_;subst h;simp[rY h2]
theorem xA (I:Inv X aa σ H s){ys:LV}{ds:LD}{ks:List (List At)}{its:LU}(f:aD ys its)(j:IsL X.K H ys ds)(h:pG ds=some ks):Paired (Fb s.heap) ks its:=by
 induction f generalizing ds ks with
 |nil=>cases j;cases h;exact .nil
 |cons r _ b=>cases j with|cons i c=>
  refine eX h λa h1 h=>?_;refine eB h λt h2 h=>?_;subst h;refine .cons ?_ (b c h2);rcases i with _|_|_|_|_|⟨hq,hl⟩|_|_|_|_<;>try (cases h1;done)
  cases hl with|nil=>cases h1|cons i1 hl=>
  cases i1<;>try (cases h1;done)
  cases hl with|nil=>cases h1|@cons v d _ _ i2 hl=>
  cases d<;>try (cases h1;done)
  cases hl with|cons=>cases h1|nil=>
  cases r
  obtain⟨k,O,rfl⟩:=oY h1;refine cX λG g=>?_;obtain⟨its',M,⟨o,d,hc,m,hd⟩,_⟩:=I.tuple hq;apply g;clear g;cases M with|cons e M=>
  cases M with|cons f M=>
  cases M
  have U:=nZ I (.cons f .nil) (.cons i2 .nil) (by show(jR _).bind _=_;rw[O];rfl);cases U with|cons U _=>exact⟨_,k,_,o,_,m,_,_,r4,r4,d,hc,hd,r4,e,U⟩
def Mh (hu:A.units<cLine):KK X A pG λz=>true:=⟨rY,λI z z z z r i e z hc=>have hp:=xA I r i e;⟨λhn z z=>Fc hp hn,HU hc hu hp⟩⟩
def HV (hu:X.A.units+40<cLine):KK X X.A.in1.in1 pG λz=>true:=Mh N9
@[simp] abbrev Qu:FE->(Env->D->Option D)->FE:=zL pG λz=>true
end DL
namespace DL
open PySem PySem.Spec PyProof.Rows L2
def Ui:Nat->(LU->Prop)->Prop
 |0,P=>P []
 |n+1,P=>∀a,Ui n λl=>P (a::l)
theorem HW n:∀P,Ui n P->∀us:LU,us.length=n->P us:=by
 induction n with
 |zero=>intro P h us e;cases us with|nil=>exact h|cons=>cases e
 |succ n i=>intro P h us e;cases us with|nil=>cases e|cons a us=>exact i _ (h a) us (Nat.succ.inj e)
section
variable {P:Program}{w:World}{K:Frag}{mg:SV}{base:Heap}
def KC (K:Frag)(mg:SV)(x:Str)(c:D):Prop:=∃u v,mg x=some u/\aA v u/\∀B,Is K B v c
def KD (w:World)(K:Frag)(mg:SV)(x:Str)(c:List (Str×D)):Prop:=∃d,mg x=some (.ref d)/\kS K w.params d c
def kc_of{h:Heap}(X:K.In h)(G:h.Ns mainGlobals mg)(k:∃u v,PySem.W.nsIn K mainGlobals x=some (some u)/\aA v u/\∀B,Is K B v c):KC K mg x c:=let ⟨u,v,e,r⟩:=k;⟨u,v,mg_of X G e,r⟩
def kd_of{c:List (Str×D)}{h:Heap}(X:K.In h)(G:h.Ns mainGlobals mg)(k:∃d,PySem.W.nsIn K mainGlobals x=some (some (.ref d))/\kS K w.params d c):KD w K mg x c:=let ⟨d,e,r⟩:=k;⟨d,mg_of X G e,r⟩
def nD.fqL{st:Stmt}{k:Nat}{O:LD->OB}(F:nD K x st)(B:∃h,K.In h/\h.Ns mainGlobals mg)(g:FS)(N:LS)(n:Nat)
  (hb:∀ {f:Addr}{bD:Value}{A:Around}{outer:List PySem.Env}{s:Shared}{H:Hp}{E:XK},N.Nodup->bB k (A.deeper (envOfC x (aj st) s.z f bD))->(A.deeper (envOfC x (aj st) s.z f bD)).units+40<cLine->(∀c P,PySem.W.tabIn K x=some (c,P)->bD=.ref c)->yY (bK oR P w K mg base N x (aj st) f bD A outer s H E).nox (aK st) g)
  (S:FnScope N (N.take n) (aj st):=by refine⟨r4,r4,r4,?_,r4,?_,?_⟩<;>decide +kernel)
  (M:∀(kV doc pm:Value)an bD ct(us:LU),us.length=(N.take n).length->bindArgs (fnOf x x (cf st) (aK st) (aj st) .none kV doc pm an bD ct) ⟨us,[]⟩=pure ((N.take n).zip us):=by
   exact λy y y y y y=>HW _ _ (by(repeat intro);rfl))
  (e:autoParam (f8 g (N.take n).length (N.length - (N.take n).length)=O) I9._auto_1):
  Fn P w K mg base (k+1) x O:=let ⟨_,X,G⟩:=B;e ▸ F.fnL X G S M λy y y y y y y hc U=>hb S.nd U (gg U) hc
end
section
variable {X:Cx}{x:Str}{pos:Pos}
def Qv i(M:X.N.Nodup)(hi:autoParam (X.N[i]? = some x) I9._auto_1)(hx:FP X.env.scope x:=by first|exact Or.inl r4|exact Or.inr r4)(hf:X.fn x=true\/X.env.scope.names.lookup x=some .local:=by first|exact .inl r4|exact .inr r4):PG X (.Name x pos) (fu i):=A8 M hi hx hf
def Mi {fp}i(M:autoParam N'.Nodup O9._auto_1)(hi:autoParam ((bG X N' scope cl C s H fp).N[i]? = some x) I9._auto_1)(hx:FP (bG X N' scope cl C s H fp).env.scope x:=by exact Or.inl r4)(hf:(bG X N' scope cl C s H fp).fn x=true\/(bG X N' scope cl C s H fp).env.scope.names.lookup x=some .local:=by first|exact .inl r4|exact .inr r4):PG (bG X N' scope cl C s H fp) (.Name x pos) (fu i):=A8 M hi hx hf
def Bp N'(hi:JI X tg bN fi)(hc:∀ {C s H fp},JC (bG X N' scope (cc scope.names X.env.cells []) C s H fp) lJ fc)(he:∀ {C s H fp},JE (bG X N' scope (cc scope.names X.env.cells []) C s H fp) hU fe)
  (O:FJ X.K nT gT g:=by first|exact kG Z9|exact AT Z9) (U:∀ {C s H fp},PG (bG X N' scope (cc scope.names X.env.cells []) C s H fp) tg g:=by intros;first|exact Mi 0|exact t7 r4 (cK (Mi 0) (cK (Mi 1) kx)))
  (cp:hG X N' scope (cc scope.names X.env.cells []) nT fU:=by repeat first|exact .nil r4|refine YF r4 r4 ?_)
  (S:CompSc X scope (cc scope.names X.env.cells []):=by exact HR) (M:autoParam (X.calm=true) I9._auto_1)
  (hs:∀x,foldedSetIterable bN X.env x=pure x:=by intro z;rfl):
  JE X (.ListComp hU [⟨tg,bN,lJ,0⟩] scope pos) (da fi nT fU gT fc fe):=Le M S cp hi (λz z z z=>U) O (λz z z z=>hc) (λz z z z=>he) hs
def Ob (N':LS)(a:X.N.Nodup)(hi:JI X tg bN fi)(hc:∀ {C s H fp},JC (bG X N' scope (cc scope.names X.env.cells []) C s H fp) lJ fc)(he:∀ {C s H fp},JE (bG X N' scope (cc scope.names X.env.cells []) C s H fp) hU fe)
  (O:FJ X.K nT gT g:=by first|exact kG Z9|exact AT Z9) (b:∀ {C s H fp},PG (bG X N' scope (cc scope.names X.env.cells []) C s H fp) tg g:=by intros;first|exact Mi 0|exact t7 r4 (cK (Mi 0) (cK (Mi 1) kx)))
  (cp:hG X N' scope (cc scope.names X.env.cells []) nT fU:=by repeat first|exact .nil r4|refine YF r4 r4 ?_)
  (U:autoParam (X.N[i]? = some y) I9._auto_1) (hy:autoParam (X.env.kindOf y=some .local) I9._auto_1)
  (c:autoParam (swapsWith (.ListComp hU [⟨tg,bN,lJ,0⟩] scope pos) (some (.Name y py)) spos.line X.env=pure true) I9._auto_1)
  (S:CompSc X scope (cc scope.names X.env.cells []):=by exact HR) (M:autoParam (X.calm=true) I9._auto_1)
  (hs:∀x,foldedSetIterable bN X.env x=pure x:=by intro z;rfl):
  JS X (.Assign [.Name y py] (.ListComp hU [⟨tg,bN,lJ,0⟩] scope pos) spos) (cI i (da fi nT fU gT fc fe)):=Lf M a U hy c S cp hi (λz z z z=>b) O (λz z z z=>hc) (λz z z z=>he) hs
def Oc (hi:JI X tg bN fi)(M:PG X tg t)(O:G9 X.K gT t)(hb:yY X U g)(hp:PassesOwn (model X.prog X.w) X.A X.env X.xe:=by exact PassesOwn.never)(hc:autoParam (X.calm=true) I9._auto_1)
  (hs:∀x,foldedSetIterable bN X.env x=pure x:=by intro z;rfl):JS X (.For tg bN U [] pos) (yX fi gT g):=PH hp hc hi M O hb hs
def HY (hi:PI X tg bN (P1 X.K fi))(M:PG X tg t)(O:G9 X.K gT t)(hb:yY X U g)(hp:PassesOwn (model X.prog X.w) X.A X.env X.xe:=by exact PassesOwn.never)(hc:autoParam (X.calm=true) I9._auto_1)
  (hs:∀x,foldedSetIterable bN X.env x=pure x:=by intro z;rfl):JS X (.For tg bN U [] pos) (f7 fi gT g):=Ll hp hc hi M O hb hs
end
end DL
namespace DL
open PySem PySem.Spec PySem.W PyProof.Rows L2
def pH:entryFor table "dict_itemiterator.__iter__" = some Builtin.«dict_keyiterator.__iter__»:=entryFor_alias (id':="dict_keyiterator.__iter__") r9 r4 O9 r9
def uC (he:IsItemIter s.heap it d i n O ok U)(h:Q (.ref it) s):wpAny (model prog w) A (pyIter (.ref it)) Q E s:=by
 have M:s.TypeIs (.ref it) _:=⟨_,he,r4⟩;exact wpAny_pyIter_slot M PySem.F.slot_dict_itemiterator_iter (wpAny_call_entry PySem.F.slot_dict_itemiterator_iter M pH (wY ⟨_,r4,"dict_itemiterator",_,M,PySem.F.slot_dict_itemiterator_next.lookup,h⟩) (PySem.F.args_dict_itemiterator_iter_1 _))
noncomputable def YG (a:Addr)(ay:List (d8×V))(ob:Obj):It:=⟨λi H=>H a=some (.dK ay ob)/\i<ay.length,λi H y H'=>∃T k v,y=.ref T/\H T=none/\H'=upd H T (.tup [kV k,v])/\ay[i]? = some (k,v),λi H=>H a=some (.dK ay ob)/\ay.length<=i⟩
def zS {P:Program}{w:World}{K:Frag}{es:QD}{t:Nat}{pt:Pos}(a it:Addr)(ay:List (d8×V))(ob:Obj){ds:Array DictEntry}{n:Nat}(hd:ob.data=.dict ds n):Turn P w K (.Tuple es t pt) (YG a ay ob) [it] it (λi h=>∃ok M,IsItemIter h it a i ay.length n ok M) where
 mem:=X9
 obj:=λi h st b hb=>by
  grind
 keep:=λi h h' st k=>let ⟨ok,M,e⟩:=st;⟨ok,M,k it X9 _ e⟩
 item:=by
  intro X d hw f hc i aa s σ H E I hf st g;subst d hw f;refine cX λG W=>?_;obtain⟨ok,M,he⟩:=st;obtain⟨j,O⟩:=g;obtain⟨vs,r,m⟩:=pF I.hok j hd;have hl:=(Paired.length r).symm;obtain⟨u,hu,ru⟩:=r.get (k:=ay[i].1) (x:=ay[i].2) (vU O);apply W;clear W;have fresh:=I.hok.fresh (vT _);have v:=vS (vX he);refine wpAny_pyNext_items_item (by rw[hl];exact he) m hu λl h' U p y hsz hk=>?_;rw[hl]at p;refine⟨_,r4,wpAny_letOwnedTupleGo_items p λh2 A s2=>?_⟩;have c:Heap.SameBut it h' h2:=s2;have new:aE X.prog X.w (upd H s.z (.tup [kV ay[i].1,ay[i].2])) h2 s.z (.tup _):=⟨by show 2<=sizeLine;decide,[l,u],.cons (Ud U) (.cons ru .nil),⟨_,c.extBut _ _ v.symm y,r4,_,r4⟩⟩;refine⟨.ref s.z,upd H s.z _,wI (s:=s) (t':=s.toks) I hf (λb o hb q=>c.extBut _ _ (λz=>hb (by simp[z])) (hk b o (λz=>hb (by simp[z])) q)) (vT _) new,r4,⟨_,ay[i].1,ay[i].2,r4,fresh,r4,vU O⟩,⟨_,_,A⟩,λb hb=>?_⟩;have C:b≠s.z:=by
   simp_all
  rw[af C];exact(hf b hb).1
 done:=by
  intro X d hw f hc i aa s σ H E I hf st g;subst d hw f;obtain⟨ok,M,he⟩:=st;obtain⟨j,D⟩:=g;obtain⟨vs,r,m⟩:=pF I.hok j hd;have hl:=(Paired.length r).symm;exact wpAny_pyNext_items_end (I.ok.hd hc) (by rw[hl];exact he) m (getElem?_eq_none N9) λh' hk=>⟨r4,gI (t':=s.toks) I hf λb o hb q=>hk b o (λz=>hb (by simp[z])) q⟩
 self:=λZ Z Z Z Z st h=>let ⟨_,_,he⟩:=st;uC he h
section
variable {X:Cx}{es:QD}{kt:Nat}{pt:Pos}{e:Expr}
def YH (td:TE):TI:=λσ H R=>td σ H λx M=>∃a ay ob,x=.ref a/\M a=some (.dK ay ob)/\R (YG a ay ob) M
def HZ {o:Expr}{td:TE}{aW aO:Pos}(i:PE X o td)(M:autoParam (attributeBase o "items" X.env (eval o X.env)=eval o X.env) I9._auto_1)(O:autoParam ((aW.endLine == aO.line)=true) I9._auto_1):PI X (.Tuple es kt pt) (.Call (.Attribute o "items" aW) [] [] aO) (YH td):=by
 intro aa s σ H R I h;refine wpAny_Call_method0_late M O (aV (i _ s σ H _ I h) λv s1 ⟨x,f,U,g,a,ay,ob,ex,c,q⟩=>?_);subst ex;obtain⟨h1,h2⟩:=tP U g (.inr (.inr (.inl ⟨r4,.inl ⟨ay,ob,c⟩⟩)));cases g
 obtain⟨es,j,hd⟩:=uB U.hok c;obtain⟨vs,r,m⟩:=pF U.hok c hd;have hl:=(Paired.length r).symm;refine⟨"dict","dict.items",plainAttrs_dict,PySem.F.slot_dict_items,PySem.F.type_dict_items,h1,h2,Calls.callWith_builtin r4 (PySem.evalArgs_none ?_)⟩;refine call_meetsIn PySem.F.slot_dict_items h1 PySem.F.entry_dict_items (PySem.F.args_dict_items_1 _) (meets_dict_items _ a (oW U.hok c).2.1) ⟨⟨vs,m.dictOf⟩,?_⟩;have d:Inv X aa σ f { s1 with heap:=s1.heap.push { cls:=.type "dict_items",data:=.fields #[.ref a] } }:=U.kept λb o e=>vZ _ e;refine wpAny_pyIter_items ⟨_,vY _ r4,r4,r4⟩ (m.keep λb o e=>vZ _ e) ?_;rw[hl];refine⟨(s1.heap.push _).objs.size,[(s1.heap.push _).objs.size],_,_,f,r4,d.kept λb o e=>vZ _ e,zS a _ ay ob hd,⟨_,_,vY _ r4⟩,λb hb=>?_,q⟩;have e:b=(s1.heap.push { cls:=.type "dict_items",data:=.fields #[.ref a] }).objs.size:=by simpa using hb
 subst e;exact d.fpOk (vT _) (d.hok.fresh (vT _))
noncomputable def uD (ks:LK)(ds:LD):LD:=(ks.zip ds).map λx=>.tup [kD x.1,x.2]
def Ia {K:Frag}{B:Hp}{a:Addr}{ks:LK}{vs:LV}{ds:LD}{ob:Obj}(h:B a=some (.dK (ks.zip vs) ob))(hl:ks.length=vs.length)(hs:IsL K B vs ds):iq K (YG a (ks.zip vs) ob) B (uD ks ds):=by
 intro i H s;have hz:(ks.zip vs).length=vs.length:=by rw[length_zip];lia
 have hn:=hs.length;refine⟨λd ed=>?_,λO=>⟨s _ _ h,by simp_all[uD]⟩⟩;unfold uD at ed;rw[vB]at ed;obtain⟨⟨k0,d0⟩,ek,rfl⟩:=oY ed;obtain⟨c,e2⟩:=getElem?_zip_eq_some.mp ek;obtain⟨v,ev,iv⟩:=hs.get e2;have M:=(vV ev).1;refine⟨⟨s _ _ h,by rw[hz];exact M⟩,λy j hy=>?_⟩;obtain⟨T,k,f,rfl,g,rfl,e⟩:=hy;obtain⟨g1,U⟩:=getElem?_zip_eq_some.mp e;rw[c]at g1;cases g1;rw[ev]at U;cases U;have b:=Ext.laid (o:=.tup [kV k0,f]) s g;exact⟨_,b,.tup (dM.of ae) (.cons (Uf _) (.cons (iv.mono b.bn) .nil))⟩
@[simp] def Br (f:FE):FA:=λρ=>(f ρ).bind λx=>match x.1 with|.dk ks ds=>some (uD ks ds)|_=>none
def Ib (h:JE X e f)(M:attributeBase e "items" X.env (eval e X.env)=eval e X.env)(O:(aW.endLine == aO.line)=true):JI X (.Tuple es kt pt) (.Call (.Attribute e "items" aW) [] [] aO) (Br f):=by
 intro aa s σ H R I q;refine cX λG K=>?_;obtain⟨B,ρ,ds,b,r,c,q⟩:=q;obtain⟨⟨xd,g⟩,ex,es⟩:=oX c;apply K;cases xd<;>try (cases es;done)
 cases es
 refine HZ h M O _ s σ H R I ⟨B,ρ,_,_,b,r,ex,λv d N1 U i1 z=>?_⟩;cases i1 with
 |@dk a ks vs ds ob hd hl hs=>exact⟨a,_,ob,r4,U.nh _ _ hd,q _ d N1 U (Ia hd hl hs)⟩
end
section
variable {K:Frag}{E:Ends}{σ:St}{H:Hp}
def uE (i:Nat)(O U:FE):FS:=λρ=>match ρ[i]? with
 |some (some (.dk ks vs,true))=>(U (n8 ρ)).bind λv=>(O ρ).bind λk=>(iI k.1).bind λM=>if ks.length<sizeLine then some (.nx (ρ.set i (some (.dk (iJ ks M) (gq ks vs M v.1),true))))else none
 |_=>none
set_option tactic.hygienic true in
def Fd (q:jw K (uE i fk fv) E σ H):AE (kq i) (tD K fk) (tD K fv) E σ H:=by
 refine cX λG g=>?_;obtain⟨B0,H0,ρ,r,⟨N,s⟩,e,p⟩:=q;apply g;clear g;unfold uE at e;split at e
 .rename_i ks ds ei;refine eX e λv ev e=>?_;refine eX e λk ek e=>?_;refine eX e λO hk e=>?_;split at e
  .cases e
   refine⟨cE N _,n8 ρ,v.1,v.2,aP.trans s.ext.nh,s.repH,ev,λg h N1 U i1 _=>?_⟩;refine cX λG g=>?_;obtain⟨s1,c⟩:=s.growH U;obtain⟨a,o,h1,h2,h3,h4⟩:=s1.ow i _ ei;apply g;clear g;refine⟨.ref a,h1,_,ρ,k.1,k.2,s1.ext.nh,s1.rep,ek,λj H2 N2 M i2 _=>?_⟩;have s2:=s1.grow M;have b:=mJ i2 hk;subst b;obtain⟨l,o',k1,k2,k3,d⟩:=s2.ow i _ ei;rw[h1]at k1;cases k1
   cases d with
   |@dk ks vs ds hl h5 ob=>
    refine⟨a,r4,.inl ⟨_,O,_,s2.ext.nh _ _ k2,r4,?_,λf=>?_⟩⟩
    .rw[length_zip];lia
    .rw[oq hl];exact p σ _ ⟨_,s2.writeB ei h1 (.dk (la hl _ _) (h5.put ((i1.mono c).mono (cM λa o e q=>⟨M.bn a o e,q⟩))))⟩
  .cases e
 simp_all
end
section
variable {X:Cx}{pos:Pos}{e k:Expr}
def Ic (hu:X.A.units+1<cLine)(U:JE X e fv)(hk:JE X k fk)(a:X.N[i]? = some y)(M:Kf X.env.scope y)(hd:aS y)
  (O:km y) (hs:swapsWith e (some (.Subscript (.Name y py) k pt)) pos.line X.env=pure false):JS X (.Assign [.Subscript (.Name y py) k pt] e pos) (uE i fk fv):=
 PS.to (tU hu (aF a M hd O) hk U hs) λz z z=>Fd
end
section
variable {prog:Program}{w:World}{A:Around}{E:QV}{s:Shared}
theorem Bs:∀vs ns,vs.length=ns.length->(∀(i:Nat)v,vs[i]? = some v->∃(m:Int)(t:Tok),ns[i]? = some m/\v=Value.int m t)->IntsAre vs ns
 |[],[],_,_=>.nil
 |v::vs,n::ns,h,k=>by
  obtain⟨m,t,e,rfl⟩:=k 0 v r4;cases (show some n=some m from e)
  exact .cons n t (Bs vs ns (by simpa using h) λi v=>k (i+1) v)
def xB (hh:A.handled=none)(lo:(a == sysModules)=false)(hm:s.heap.DictAt (bR prog w) a ay ep)(hk:ay.map (·.1)=ns.map .inl)(j:ns.length<64)
  (l:∀(h1 h':Heap)(tk:Nat)(b:Addr)(out:AV)(n:Nat)(M:LI),(∀c u,s.heap.get? c=some u->h1.get? c=some u)->(∀c u,h1.get? c=some u->h'.get? c=some u)->h1.objs.size<=b->h'.get? b=some (seqObj "list" out n) ->
   IntsAre out.toList M->M.Perm ns->M.Pairwise (·<=·)->Q (.ref b) { s with heap:=h',toks:=tk }):
  wpAny (model prog w) A (call (.builtin "sorted") [.ref a]) Q E s:=by
 refine Calls.call_function_entry kind_sorted plain_sorted entry_sorted (args_sorted1 _) ?_;refine wX (wY ?_);have e:=by have:=congrArg List.length hk;simpa using this
 refine wX (kdu_collect (A:=A.in1) (kdl_dict lo) (by exact hh) hm (by rw[sizeLine_eq];lia) λh1 tk U d O=>?_);have f:U.toList.length=ns.length:=by rw[vG,O.1,e]
 have o:=Bs U.toList ns f λi v p=>by
  obtain⟨k,x,r,e2⟩:=O.2 i v (by simpa using p);have h:(ay.map (·.1))[i]? = some k:=by rw[vB,r];rfl
  rw[hk,vB]at h;obtain⟨m,y,rfl⟩:=oY h;obtain⟨t,rfl⟩:=Value.isInt_shape (k:=m) (v:=v) e2;exact⟨m,t,y,r4⟩
 refine wX (wpAny_newList ?_ (by rw[f,sizeLine_eq];lia));have g:(h1.push (seqObj "list" U.toList.toArray 0)).get? h1.objs.size=some _:=vY _ r4;refine wX (wpAny_holding (wpAny_call_entry slot_list_sort ⟨_,g,r4⟩ entry_list_sort (list_sort_tree g o (by rw[f];exact j) λout M a1 a2 a3=>⟨_,r4,?_⟩) (args_list_sort _)));obtain⟨n,he⟩:=sortedHeap_at (out:=out) g;refine wY ⟨_,r4,l h1 _ _ _ out n M d (λb u q=>?_) (vT _) he a1 a2 a3⟩;have hl:=vX q;rw[sortedHeap_old (vS hl) (by simp_all[lt_succ_of_lt])];exact vZ _ q
end
noncomputable def Ie:LK->Option LI
 |[]=>some []
 |.inl n::ks=>(Ie ks).map (n :: ·)
 |.inr _::_=>none
theorem xC:∀ {ks:LK}{ns:LI},Ie ks=some ns->ks=ns.map .inl
 |[],_,h=>by cases h;rfl
 |.inl n::ks,_,h=>by
  obtain⟨r,h1,rfl⟩:=oY h;rw[xC h1];rfl
 |.inr _::_,_,h=>by cases h
def Mj {ay:List (d8×V)}(r:KV ay vs):vs.map (·.1)=ay.map (·.1):=by
 induction r with
 |nil=>rfl
 |cons h t M=>simp_all
@[simp] def Ig:LD->OB
 |[.dk ks _]=>(Ie ks).bind λns=>if ns.length<64 then some (.lst ((Be ns).map .int),true)else none
 |_=>none
section
variable {X:Cx}
def Fe (hc:X.calm=true):aY X (.builtin "sorted") (wl X.K Ig):=by
 intro aa s σ H xs us Q I r h;refine cX λG W=>?_;obtain⟨B,dl,d,A,j,i,O,q⟩:=h;apply W;clear W;cases i with
 |nil=>simp at O
 |cons i1 i2=>
  cases i2 with
  |cons _ _=>simp_all
  |nil=>
   cases i1 with
   |@dk a ks vs ds ob hd hl hs=>
    obtain⟨u,rfl,l⟩:=cZ r;cases l
    refine eX O λns en O=>?_;split at O
    .rename_i U;cases O
     have c:=j _ _ hd;obtain⟨es,C,f⟩:=uB I.hok c;obtain⟨p,t,m⟩:=pF I.hok c f;refine xB (I.ok.hd hc) (oW I.hok c).2.1 m (by rw[Mj t,List.map_fst_zip N9,xC en]) U λh1 h' tk b out n x k1 k2 hb he y M g=>?_;have e:=Hl M g;subst e;have k:Inv X _ σ H { s with heap:=h1,toks:=tk }:=lY I k1 r4 r4;have hf:=k.hok.fresh hb;have z:=Ext.laid (o:=.lst ((Be ns).map V.int)) j hf;exact⟨.ref b,_,k.laid k2 hb (show aE _ X.w _ h' _ (.lst _)from ⟨by rw[vI];unfold Be;rw[(gL _ ns).length_eq,sizeLine_eq];lia,out.toList,n,fZ y,he⟩),r4,q _ _ _ z (.lst (dj.of ae) (p8 _)) λ_=>⟨_,_,_,r4,r4,hf,ae,p8 _⟩⟩
    simp_all
   |_=>simp at O
def Qw (hu:X.A.units+1<cLine)(hi:JE X i fi)(b:JE X o fo)(hm:behindInMarks .In o=false):JE X (.Compare i [.In] [o] pos) (f2 inK fi fo):=by
 refine PE.to (OP (Pw hu hi b) hm) λσ H Q q=>cX λG K=>?_;obtain⟨B,ρ,d,g,c,r,M,q⟩:=q;refine eX M λy e M=>eX M λx ex M=>?_;apply K;refine⟨B,ρ,y.1,y.2,c,r,e,λj l N1 O i2 z=>⟨N1,ρ,x.1,x.2,O.nh,r.mono O.bn,ex,λv H2 N2 U i1 m=>?_⟩⟩;obtain⟨xd,n⟩:=x;cases i1 with
 |@dk a ks vs ds ob h hl hs=>
  refine eB M λk hk M=>?_;cases M
  have f:=mJ i2 hk;subst f;refine⟨a,ie _ k,r4,.inl ⟨_,k,_,.inl (U.nh _ _ h),r4,r4⟩,?_⟩;rw[rV hl hs];exact(q.into (O.trans U)).one U.nh (.bl _)
 |_=>simp at M
end
end DL
namespace DL
open PySem L2
def xD (I:Nat->Env->Prop)(ds:LD)(O:Env)(h0:I 0 O)
  (step:∀i d ρ,ds[i]? = some d->I i ρ->∃M ρ',tg d ρ=some M/\(g M=some (.nx ρ')\/g M=some (.ct ρ'))/\I (i+1) ρ'):
  ∃ρ',dr tg g ds O=some (.nx ρ')/\I ds.length ρ':=by
 have U:∀(es:LD)(i:Nat)(ρ:Env),ds.drop i=es->i+es.length=ds.length->I i ρ->∃ρ',dr tg g es ρ=some (.nx ρ')/\I ds.length ρ':=by
  intro es;induction es with
  |nil=>simp_all
  |cons d es b=>
   intro i ρ e hl h;have hd:ds[i]? = some d:=by
    have:(ds.drop i)[0]? = some d:=by rw[e];rfl
    grind
   obtain⟨M,ρ',h1,h2,h3⟩:=step i d ρ hd h;obtain⟨a,k1,k2⟩:=b _ _ (by rw[<-List.drop_drop,e];rfl) (by simp at hl;lia) h3;refine⟨a,?_,k2⟩;simp_all<;>lia
 exact U ds 0 _ X9 X9 h0
def xE n(I:Nat->Env->Prop)O(h0:I 0 O)
  (step:∀i ρ,i<n->I i ρ->∃M ρ',tg (.int i) ρ=some M/\(g M=some (.nx ρ')\/g M=some (.ct ρ'))/\I (i+1) ρ'):
  ∃ρ',dr tg g (bU 0 n) O=some (.nx ρ')/\I n ρ':=by
 have hl:(bU 0 n).length=n:=by simp[bU]
 obtain⟨ρ',h1,h2⟩:=xD I (bU 0 n) _ h0 λi d ρ hd h=>by
  unfold bU at hd;rw[vB]at hd;refine eB hd λk hk hd=>?_;obtain⟨U,hk⟩:=vV hk;rw[length_range]at U;rw[getElem_range]at hk;subst hk;rw[Int.zero_add]at hd;subst hd;exact step i ρ U h
 simp_all
def Qx {α:Type}{xs:List α}{j:Nat}h:qL xs j=some xs[j]:=KL (by simp )
def uF {α:Type}{xs:List α}{i:Int}(h0:0<=i)h:qL xs i=some xs[i.toNat]:=by
 have:=Qx h;rwa [Int.toNat_of_nonneg h0]at this
@[simp] def Od (xs:LI):bP (xs.map D.int)=true:=by
 induction xs with
 |nil=>simp
 |cons x xs M=>simp[M]
@[simp] def Kj n(xs:LI):(xs.map D.int).all (bx n)=true:=by
 simp
@[simp] def Ml (xs:LI):(xs.map D.int).all dO=true:=by
 simp
mutual
noncomputable def eO:D->D->Bool
 |.non,.non=>true
 |.bl a,.bl b=>a == b
 |.int a,.int b=>decide (a=b)
 |.str a,.str b=>decide (a=b)
 |.ty a,.ty b=>decide (a=b)
 |.tup xs,.tup ys=>pJ xs ys
 |.lst xs,.lst ys=>pJ xs ys
 |_,_=>false
noncomputable def pJ:LD->LD->Bool
 |[],[]=>true
 |x::xs,y::ys=>eO x y && pJ xs ys
 |_,_=>false
end
mutual
theorem uG:∀ {x y:D},eO x y=true->x=y
 |.non,y,h=>by cases y<;>first|rfl|cases h
 |.bl a,y,h=>by cases y<;>first|cases h;done|rw[eq_of_beq h]
 |.int a,y,h=>by cases y<;>first|cases h;done|rw[of_decide_eq_true h]
 |.str a,y,h=>by cases y<;>first|cases h;done|rw[of_decide_eq_true h]
 |.ty a,y,h=>by cases y<;>first|cases h;done|rw[of_decide_eq_true h]
 |.tup xs,y,h=>by cases y<;>first|cases h;done|rw[pK h]
 |.lst xs,y,h=>by cases y<;>first|cases h;done|rw[pK h]
 |.dk _ _,_,h=>nomatch h
 |.dt _ _,_,h=>nomatch h
theorem pK:∀ {xs ys:LD},pJ xs ys=true->xs=ys
 |[],[],_=>r4
 |x::xs,y::ys,h=>by
  have h:=Bool.and_eq_true_iff.mp h;rw[uG h.1,pK h.2]
end
def isR (r:OB)(d:D)(b:Bool):Bool:=match r with
 |some (e,c)=>eO e d && c == b
 |none=>false
def mi (h:isR r d b=true):r=some (d,b):=by
 rcases r with z|⟨e,c⟩
 .cases h
 .have h:=Bool.and_eq_true_iff.mp h;rw[uG h.1,eq_of_beq h.2]
section
variable {f:FE}{c:FT}{g g' h:FS}{ρ ρ':Env}{i:Nat}{d:D}{b:Bool}{r:Option Res}{ds:LD}
def cB (hl:ds.length=n)(e:g (ds.map (λd=>some (d,false))++List.replicate k none)=some (.rt d b)):f8 g n k ds=some (d,b):=by
 unfold f8;rw[if_pos hl,e]
def Ff (n:bc d=true):setE ρ i d b=ρ.set i (some (d,false)):=by unfold setE;rw[if_pos n]
def Ih (n:bP ds=true):setE ρ i (.lst ds) true=ρ.set i (some (.lst ds,true)):=by
 simp_all
def Oe (e:f ρ=some (d,b))(k:h (setE ρ i d b)=r):bZ (cI i f) h ρ=r:=by simp[e];exact k
def Ii (e:f ρ=some (d,b))(n:bc d=true)(k:h (ρ.set i (some (d,false)))=r):bZ (cI i f) h ρ=r:=Oe e (by rw[Ff n];exact k)
def pL (e:f ρ=some (.lst ds,true))(n:bP ds=true)(k:h (ρ.set i (some (.lst ds,true)))=r):bZ (cI i f) h ρ=r:=Oe e (by rw[Ih n];exact k)
def Qy (u:unown ρ=ρ):setE ρ i d false=ρ.set i (some (d,false)):=by
 simp_all
def Uj (e:f ρ=some (d,false))(u:unown ρ=ρ):cI i f ρ=some (.nx (ρ.set i (some (d,false)))):=by
 show(f ρ).map _=_;rw[e,Option.map_some,Qy u]
def fD (e:g ρ=some (.nx ρ'))(k:h ρ'=r):bZ g h ρ=r:=by unfold bZ;rw[e];exact k
def Uk (e:g ρ=some (.rt d b)):bZ g h ρ=some (.rt d b):=by unfold bZ;rw[e]
def Mm (e:c ρ=some true)(k:g ρ=r):f6 c g g' ρ=r:=by unfold f6;rw[e];exact k
def zU (e:c ρ=some false)(k:g' ρ=r):f6 c g g' ρ=r:=by unfold f6;rw[e];exact k
def Ul (e:c ρ=some x)(M:x=true->g ρ=r)(O:x=false->g' ρ=r):f6 c g g' ρ=r:=by
 cases x with
 |true=>exact Mm e (M r4)
 |false=>exact zU e (O r4)
def jS (e:c ρ=some true)(k:g ρ=some (.rt d b)):bZ (f6 c g g') h ρ=some (.rt d b):=Uk (Mm e k)
def cW (e:c ρ=some false)(k:h ρ=r):bZ (f6 c g b9) h ρ=r:=fD (zU e r4) k
def eP (e:f ρ=some (d,b)):cq f ρ=some (.rt d b):=by simp[e]
def Bt (e:ρ[i]? = some (some (d,b)))(hb:autoParam (NG d=false) I9._auto_1):rz i ρ=some (.rt d b):=by simp only[rz,e,hb];simp
def Ij (e:f ρ=some (d,b))(n:bc d=true):cI i f ρ=some (.nx (ρ.set i (some (d,false)))):=by
 simp_all
def Ik (e:ρ[i]? = some (some (.lst ds,true)))(M:f ρ=some (d,b))(n:bc d=true)(l:ds.length<sizeLine):yW i f ρ=some (.nx (ρ.set i (some (.lst (ds++[d]),true)))):=by
 simp[e,M,n,l]
def iL (e:M ρ=some ds)(k:dr tg g ds ρ=some (.nx ρ')):f7 M tg g ρ=some (.nx ρ'):=by unfold f7;rw[e];exact k
def gr {f:FE}{j:Nat}(e:f ρ=some (.int j,b))(hj:j<=1000):iA f ρ=some (bU 0 j):=by
 simp_all<;>lia
def ml (e:f ρ=some (.bl x,b)):c8 f ρ=some x:=by unfold c8;rw[e]
def ou (e:fa ρ=some ds)(k:F ds=x):fA F fa ρ=x:=by simp_all
def Qz (M:f ρ=some (d,b))(e2:fr ρ=some xs):ak f fr ρ=some (d::xs):=by
 simp_all
def jT (M:fa ρ=some (x,b1))(e2:U ρ=some (y,b2))(O:op x y=z):f2 op fa U ρ=z:=by
 simp_all
def oy (M:O ρ=some p)(e2:p=true->U ρ=some q):gb O U ρ=some (p && q):=by
 unfold gb;rw[M];cases p
 .rfl
 .exact e2 r4
def Q0 (M:O ρ=some p)(e2:p=false->U ρ=some q):io O U ρ=some (p || q):=by
 unfold io;rw[M];cases p
 .exact e2 r4
 .rfl
def Bu (M:O ρ=some p):eF O ρ=some (!p):=by
 unfold eF;rw[M];rfl
end
theorem Um (a c:Nat):decide ([a]<[c])=decide (a<c):=by
 simp_all[cons_lt_cons_iff]
@[simp] def Xq a c:Yz (.str ⟨#[a]⟩) (.str ⟨#[c]⟩)=some (.bl (decide (a<=c)),false):=by
 grind[Yz,Um]
def jU (h:n<=100000):n<sizeLine:=lt_of_le_of_lt h Z9
def aQ (h:n<=100000):n<=sizeLine:=le_of_lt (jU h)
def Uo {α:Type}(l:List α)(g:α->D)p(h:α->D)(e:fi ρ=some (l.map g))(hl:l.length<=100000)
  (k:∀x∈l,∃M,tg (g x) (g9 nT fU ρ)=some M/\c M=some (p x)/\(p x=true->∃b,fe M=some (h x,b))):da fi nT fU tg c fe ρ=some (.lst ((l.filter p).map h),true):=by
 have O:∀l':List α,(∀x∈l',x∈l)->cF tg c fe (g9 nT fU ρ) (l'.map g)=some ((l'.filter p).map h):=by
  intro l';induction l' with
  |nil=>simp
  |cons x l' U=>
   grind[mX,jH]
 unfold da;rw[e,vJ,if_pos (aQ (by simpa using hl)),O l λz h=>h,Option.map_some]
def Of {α:Type}(l:List α)(g:α->D)(h:α->D)(e:O ρ=some (l.map g))(hl:l.length<=100000)
  (k:∀x∈l,∃M,tg (g x) (g9 U fU ρ)=some M/\∃b,fe M=some (h x,b)):da O U fU tg dN fe ρ=some (.lst (l.map h),true):=by
 have:=Uo (c:=dN) l g _ h e hl λx hx=>by
  obtain⟨M,h1,h2⟩:=k x hx;exact⟨M,h1,r4,λz=>h2⟩
 rw[List.filter_eq_self.mpr λz z=>r4]at this;exact this
@[simp] def Ur {α:Type}f(l:List α):wE (l.map λx=>.bl (f x))=some (l.map f):=by
 induction l with
 |nil=>rfl
 |cons x l M=>simp[M]
def Gn (h0:0<=i)(h:i.toNat<z.cps.size)(hz:z.length<=100000):eY (.str z) (.int i)=some (.str ⟨#[z.cps.toList.getD i.toNat 0]⟩,false):=by
 simp_all[aQ,uF]
def zV (h0:0<=i)(h:i.toNat<ds.length):eY (.lst ds) (.int i)=some (ds.getD i.toNat .non,false):=by
 simp_all[uF]
def tI (h0:0<=i)(h:i.toNat<ds.length):eY (.tup ds) (.int i)=some (ds.getD i.toNat .non,false):=by
 simp_all[uF]
def Bv {xs:LI}{i:Int}(h0:0<=i)(h:i.toNat<xs.length):eY (.lst (xs.map .int)) (.int i)=some (.int (xs.getD i.toNat 0),false):=by
 rw[zV h0 (by simpa using h)];simp[h]
def xF (c:Nat):(⟨#[c]⟩:Str).length=1:=rfl
def mod_lt {x m:Int}(hm:0<m):0<=x % m/\x % m<m:=⟨Int.emod_nonneg _ N9,Int.emod_lt_of_pos _ hm⟩
def Il M(zs:LS):(Txt.join M zs).length<=(zs.map (·.length)).sum+zs.length*M.length:=by
 unfold Txt.join;rw[StrLaws.glued_eq_join];exact StrLaws.join_length_le _ zs
def Bw:cU [.lst ds]=some (.int ds.length,false):=rfl
def By:jM (.int i) (.int j)=some (.bl (decide (i=j)),false):=X9
def xG (h:0<=v):HT.cH n d (some v)=min v.toNat n:=by
 show(if v<0 then (v+n).toNat else min _ n)=_;rw[if_neg N9]
def dm x y(M:fa ρ=some (x,false))(e2:U ρ=some (y,false))(O:op x y=z):f2 op fa U ρ=z:=jT M e2 O
def pM (e:f ρ=some (.bl x,false)):c8 f ρ=some x:=ml e
def Og (M:f ρ=some (d,false))(e2:fr ρ=some xs):ak f fr ρ=some (d::xs):=Qz M e2
def yD ds(e:fa ρ=some ds)(k:F ds=x):fA F fa ρ=x:=ou e k
def Oh d(e:f ρ=some (d,false))(n:bc d=true)(k:h (ρ.set i (some (d,false)))=r):bZ (cI i f) h ρ=r:=Ii e n k
end DL
namespace DL
open PySem PySem.Spec PyProof.Rows L2
@[simp] abbrev fV (i:Nat)(g:FA):FA:=ak (ai i) g
@[simp] abbrev fI (n:Int):FE:=fC (.int n)
section
variable {X:Cx}{es:QD}{g:FA}{pos:Pos}
def Im(M:JA X es g):JA X (.Constant (.int i) j pos::es) (ak (fC (.int i)) g):=ag aL M
end
def zW:typeLookup (.type "list_reverseiterator") "__len__" = pure none:=I9
def Mn:typeLookup (.type "list_reverseiterator") "__length_hint__" = pure (some (.builtin "list_reverseiterator.__length_hint__")):=I9
def zX:bootBuiltins "reversed" = some (.type "reversed"):=O9
section
variable {prog:Program}{w:World}{A:Around}{E:QV}{s:Shared}{l it:Addr}{items:AV}
def Io(M:s.TypeIs (.ref it) "list_reverseiterator")(h:Q false s):wpAny (model prog w) A (Builtin.List.listLengthHint (.ref it)) Q E s:=by
 refine wX (wpAny_specialOf M zW ?_);refine wX (wpAny_specialOf M Mn ?_);generalize O:("list_reverseiterator.__length_hint__" : String)=U;subst O;refine wX (wpAny_isInstance (b:=true) M r9 ?_);exact wY h
def qU (hh:A.handled=none)(n:l≠it)(Kd:s.heap.IsRevIter it l ((items.size:Int) - 1))(hl:s.heap.IsList l items)(hn:items.size<=sizeLine)
  (p:∀s' M h,(∀b o,b≠it->s.heap.get? b=some o->s'.heap.get? b=some o)->s'.gens=s.gens->s'.os=s.os->s'.heap.get? s.heap.objs.size=some (seqObj "list" M h)->M.toList=items.toList.reverse->Q (.ref s.heap.objs.size) s'):
  wpAny (model prog w) A (call (.type "list") [.ref it]) Q E s:=by
 have j:∀ {b o},s.heap.get? b=some o->b≠s.heap.objs.size:=λe=>vS (vX e);have q:it≠s.heap.objs.size:=by obtain⟨o,e,y⟩:=id Kd;exact j e
 have r:l≠s.heap.objs.size:=by obtain⟨o,e,y⟩:=id hl;exact j e
 refine callType_codes (Q₁:=λobj a=>obj=.ref s.heap.objs.size/\a={ s with heap:=s.heap.push _ }) called_list (PySem.F.typeCall_list_1 _) PySem.F.entry_list_init
  (code_list_new _ ⟨r4,r4⟩) λobj a c=>?_
 obtain⟨rfl,rfl⟩:=c;have d:(s.heap.push { cls:=.type "list",data:=.seq #[] }).get? s.heap.objs.size=some _:=vY _ r4;refine⟨⟨_,d,r4⟩,PySem.F.args_list_init_2 _ _,?_⟩;refine wX ?_;unfold Builtin.List.listItems;refine wX (wpAny_seqItems d r4 (wY ?_));refine wX (wpAny_updateSeq d r4 ?_);have k:=Heap.get?_update_self (Obj.mapSeq (λy=>(#[]:AV))) d r4;have f:∀b o,s.heap.get? b=some o->((s.heap.push { cls:=.type "list",data:=.seq #[] }).update s.heap.objs.size (Obj.mapSeq (λy=>(#[]:AV)))).get? b=some o:=λb o e=>(Heap.get?_update_other _ _ (Ne.symm (j e))).trans (vZ _ e);refine wX (wpAny_letGo ?_);generalize (s.heap.push _).update s.heap.objs.size _=g at k f |-;have O:=Kd.at λo e=>f _ _ e;have t:g.IsList l items:=hl.at λo e=>f _ _ e;have W:=Walks.listRev (prog:=prog) (w:=w) (A:=A.in1.in1) hh it l n items;have u:s.heap.objs.size∉[it,l]:=by grind
 unfold Builtin.List.listExtendWith;refine wX (wpAny_typeOf (T:="list_reverseiterator") (show Shared.TypeIs { s with heap:=g } _ _ from Heap.IsRevIter.typeIs (s:={ s with heap:=g }) O) ?_);rw[if_neg (by simp[Builtin.List.listSameRef,q.symm])];refine wX (wpAny_pyIter_revIter O ?_);refine wX (wpAny_holding (Io (Heap.IsRevIter.typeIs (s:={ s with heap:=g }) O) ?_));rw[if_neg Z9];refine wY ⟨plainId_quiet plain_extend_loop _,codeAny_extend_loopS W.toS hn _ u _ items.size 0 _ _ _ r4 (uO _) ⟨uO _,by simp_all,t⟩ k (ItemsOf.nil _) λs' M h hm x U=>?_⟩;refine⟨r4,p s' M h (λb o hb e=>hm.heap b o (λz=>?_) (f b o e)) hm.gens hm.os x ?_⟩
 .simp_all
 .apply ext_getElem?;intro i;by_cases hi:i<items.size
  .obtain⟨v,m⟩:∃v,M[i]? = some v:=⟨_,Array.getElem?_eq_getElem (by rw[U.1];exact hi)⟩;rw[Array.getElem?_toList,m,List.getElem?_reverse (by simpa using hi)];have:=U.2 i v m;simp_all
  .rw[getElem?_eq_none (by rw[vG,U.1];lia),getElem?_eq_none W9]
end
@[simp] noncomputable def YI:D->OB
 |.lst ds=>some (.lst ds.reverse,true)
 |_=>none
def aD.rev (h:aD vs us):aD vs.reverse us.reverse:=by
 induction h with
 |nil=>exact .nil
 |cons r _ M=>rw[reverse_cons,reverse_cons];exact M.append (.cons r .nil)
def IsL.rev {K:Frag}{B:Hp}{vs:LV}:∀ {ds:LD},IsL K B vs ds->IsL K B vs.reverse ds.reverse:=by
 induction vs with
 |nil=>intro ds h;cases h;exact .nil
 |cons v vs M=>intro ds h;cases h with|cons h t=>rw[reverse_cons,reverse_cons];exact(M t).append (.cons h .nil)
section
variable {X:Cx}{e:Expr}{pos p pos2 p2:Pos}
set_option tactic.hygienic true in
def zY (O:X.calm=true)(hl:X.mg "list" = none)(hm:X.mg "reversed" = none)(he:JE X e f)(k:Gl X "list")(x:Gl X "reversed")
  (hs:ce e X.env)
  (U:starEach [.Call (.Name "reversed" p2) [e] [] pos2] X.env=[(false,eval (.Call (.Name "reversed" p2) [e] [] pos2) X.env)]):
  JE X (.Call (.Name "list" p) [.Call (.Name "reversed" p2) [e] [] pos2] [] pos) (f1 YI f):=by
 intro aa s σ H Q I q;refine cX λW Y=>?_;obtain⟨B,ρ,d,S,y,r,c,dZ⟩:=q;obtain⟨⟨xd,T⟩,ex,c⟩:=oX c;apply Y;clear Y;cases xd<;>try (cases c;done)
 rename_i ds;cases c
 refine wpAny_Call_Name_kw (dn I k hl pi ?_ Z9 Z9);refine PyProof.Rows.callWith_type1 ?_ (by rw[U];rfl) r4;rw[U];refine Calls.spliced_cons ?_;refine wpAny_Call_Name_kw (dn I x hm zX ?_ Z9 Z9);refine PyProof.Rows.callWith_type1 (aV (ag he aB hs pos2 aa s σ H (λvs m=>∃N1,Ext B N1 H m/\IsL X.K N1 vs [.lst ds]) I ⟨B,ρ,[.lst ds],y,r,by simp[ak,aI,ex],λvs m N1 M i1=>⟨N1,M,i1⟩⟩) λus s1 ⟨vs,m,g,z,N1,M,i⟩=>?_) (by rw[hs];rfl) r4;cases i with
 |cons A C=>
  cases C
  cases A
  rename_i l ws h m1;obtain⟨V,rfl,D⟩:=cZ z;cases D
  refine g.lisE (M.nh.seq h) λits t pl E=>?_;have F:l<s1.heap.objs.size:=by obtain⟨o,j,_⟩:=pl.isList;exact vX j
  refine call_reversed_list pl.isList ?_;refine Calls.spliced_nil ?_;refine qU (g.ok.hd O) (vS F) ⟨_,vY _ r4,r4,r4⟩ (pl.isList.push _) (by rw[vH,<-t.length];exact E) λs' G J hk L n u a=>?_;have k1:=λb o j=>hk b o (vS (vX j)) (vZ _ j);have hp:=g.hok.fresh (le_succ _);rw[size_push' _ _]at u |-;have N:=lY (s1:={ s1 with drawn:=s'.drawn }) g (λ_ _ e=>e) r4 r4;have v:=Ext.laid (o:=.lst ws.reverse) M.nh hp;obtain⟨h',g',d',P,R⟩:=s';cases L;cases n
  have i:=(IsL.rev m1).mono v.bn;refine⟨.ref (s1.heap.objs.size+1),_,N.laid (t':=P) k1 (le_succ _) (show aE X.prog X.w _ h' _ (.lst ws.reverse)from ⟨by simp_all,G.toList,J,?_,u⟩),r4,dZ _ _ _ (M.trans v) (.lst (dj.of ae) i) λ_=>⟨_,_,_,r4,r4,M.hh.free hp,ae,i⟩⟩;rw[a];exact aD.rev t
end
end DL
namespace DL
open PySem PySem.Spec PySem.W PyProof.Rows L2
def Sb (ns:LI):Prop:=∀i∈ns,Builtin.Int.intBits i<=1048576
abbrev Q1:D->D->OB:=v0 (λi j=>decide (Builtin.Int.intBits i<=2097152/\Builtin.Int.intBits j<=2097152)) λi j=>.int (i*j)
def Q2:bT X (binaryOp .Mult) (rD X.K Q1):=gC (Pd λz z z z z z z hc q=>mul_int q (IntMulOk.of_le hc.1 hc.2 Z9)) (λz z=>mw) λz z z=>.int _
def Q3(h:WData.layableAll [WData.list (ns.map WData.int)]=true):Sb ns:=λi hi=>by
 have h2:=layableW_item (layableW_arg h _ (mem_singleton.mpr r4)) _ (mem_map.mpr ⟨i,hi,r4⟩);simp_all[WData.layable,WData.weight,Builtin.Int.intBits]
def walkB {l:PySem.W.OpenLaw}{q:Program}{O:LS}{E:SV->Heap->Prop}{C:World->Heap->Prop}{d:DefRec}{K:Params->Frag}{k:Nat}{x:Str}{f:LD->OB}{L:List (Str×Option (Addr×Addr))}(hn:l.most=some 63)(I:d.params.defaults=[])(J:bB k callerA)
  (Q:∀(w:World)(h:Heap),C w h->(K w.params).In h) (n:∀w:World,oE (K w.params) L) (R:(L.all λp=>p.2.isNone || ((recsOf q).find? λe=>e.name == p.1).isSome)=true)
  (F:∀(w:World)(mg:SV)(fa:Addr)(h:Heap),(K w.params).In h->h.Ns mainGlobals mg->mg d.name=some (.ref fa) ->
   ∃fd:FuncData,(∀(s:Shared)(u:Value),BindsTo s fd ⟨[u],[]⟩ [(x,u)])/\∀base:Heap,(K w.params).In base->base.Ns mainGlobals mg->dI l.prog w (K w.params) mg base oR k fa fd [x] (PK (K w.params) f))
  (S:∀ns:LI,ns.length<=63->Sb ns->∃b,f [.lst (ns.map .int)]=some (.bl true,b)):PySem.W.WalkO q O E C l.row.toRowW d [] (λf vs=>PySem.call f vs):=by
 intro w s₀ D mg mb G Y fa o pm cd doc dV kV ho hd oC V t X args vals as i j Z ZD hlo;obtain⟨a,vs,ns,rfl,rfl,y,U,M⟩:=Att.Em hn i ZD;have z:=Q w _ Y;obtain⟨fd,hb,hF⟩:=F w mg fa _ z G.T.g t;refine enter_call (codeAny_mono (E5 (uq L) (λb u e=>?_) (n w).none z G.T.g G.T.b G.T.builtins G.T.nolimit G.T.bmain X y U (vR M Z9) J hF hb λH hH hS=>?_) λr s' hq=>?_)
 .obtain⟨p,hp,e2⟩:=mem_filterMap.mp (iB e);obtain⟨⟨c,P⟩,e3,e4⟩:=oY e2;cases e4
  have m:=uS R p hp;rw[e3]at m;obtain⟨r,A⟩:=uV m;have B:PySem.W.tabIn (K w.params) p.1=some (c,P):=by
   rw[(n w).names]at hp;simp_all<;>lia
  obtain⟨h1,h2⟩:=PySem.W.tab_of G.T z A B;exact⟨h2,(h1.tab h2).isCodeTable⟩
 .obtain⟨b,e⟩:=S ns M (Q3 j);exact⟨H,_,_,b,⟨.refl H,(n w).tb hH⟩,.cons (.lst hS (.flat r4)) .nil,e,λv H' N x' i' _=>by cases i';rfl⟩
 .obtain⟨rfl,h2,h3,h4⟩:=hq;exact⟨.inl ⟨.bool _,.bool _,[],r4,λ_=>r4,.bool _,Att.En l _,λ_=>⟨List.Pairwise.nil,λ_ hm=>(nomatch hm)⟩⟩,h2,h3,h4⟩
structure OneK (α:Type)[DecidableEq α] where
 v:α->V
 ev:Value->α->Bool
 as:List D->Option (List α)
 lG:∀ {a:α}{u:Value},aA (v a) u->∀b,ev u b=decide (a=b)
 eq:∀ {A:Around}{s:Shared}{a b:α}{u u':Value},aA (v a) u->aA (v b) u'->PySem.SeqAt.EqAt A s u u' (ev u b)
 is:∀ {K:Frag}{B:Hp}{ws:List V}{ds:List D}{l:List α},IsL K B ws ds->as ds=some l->ws=l.map v
def cC(h:n<=200000):n<=sizeLine:=by rw[sizeLine_eq];omega
section
variable {X:Cx}
abbrev iOr:D->D->OB:=v0 (λz z=>true) λi j=>.int (Builtin.bitOr i j)
abbrev YJ:D->D->OB:=v0 (λi j=>decide (0<=j/\j<=1000000/\i.natAbs<18446744073709551616)) λi j=>.int (i*2 ^ j.toNat)
def YK:bT X (binaryOp .BitOr) (rD X.K iOr):=dE SR λz z z=>.int _
def Us:bT X (binaryOp .LShift) (rD X.K YJ):=gC Pk (λi j h=>by have h:=mw h;unfold Ky;omega) λz z z=>.int _
@[simp] noncomputable def Fg:LD->OB
 |[.int i]=>if i.natAbs.log2<1920 then some (.str (toString i),false)else none
 |[.str x]=>some (.str x,false)
 |_=>none
def Ip:aY X (.type "str") (wl X.K Fg):=by
 intro aa s σ H xs us Q I O q;refine e6 q λB ds d b M i e q=>?_;cases i with
 |nil=>cases e
 |cons i1 i=>
  cases i with
  |cons _ _=>cases i1<;>cases e
  |nil=>
   obtain⟨u,rfl,r⟩:=cZ O;cases i1<;>try (cases e;done)
   .simp only[Fg]at e;split at e
    .rename_i hn;cases e
     obtain⟨t,rfl⟩:=r;exact PySem.P.str_of_int hn ⟨.str _,H,I.tok _,⟨_,r4⟩,q.one M (.str _)⟩
    .cases e
   .cases e
    obtain⟨t,rfl⟩:=r;exact PySem.P.str_of_str ⟨.str _,H,I,⟨_,r4⟩,q.one M (.str _)⟩
@[simp] noncomputable def YL:LD->OB
 |[.str x]=>(PySem.intText? x).bind λn=>if x.length<=640 then some (.int n,false)else none
 |_=>none
def Q4:aY X (.type "int") (wl X.K YL):=by
 intro aa s σ H xs us Q I M q;refine e6 q λB ds d b O i e q=>?_;cases i with
 |nil=>cases e
 |cons i1 i=>
  cases i with
  |cons _ _=>cases i1<;>cases e
  |nil=>
   obtain⟨u,rfl,r⟩:=cZ M;cases i1<;>try (cases e)
   refine eX e λn hn e=>?_;split at e
   .rename_i hl;cases e
    obtain⟨t,rfl⟩:=r;exact PySem.W.KIN.call_text hn hl ⟨.int _,H,I.tok _,⟨_,r4⟩,q.one O (.int _)⟩
   .cases e
noncomputable def inS (y x:Str):Bool:=!(Builtin.Str.occurrences x y 0 x.length 1).isEmpty
@[simp] def sIn:D->D->OB
 |.str y,.str x=>some (.bl (inS y x),false)
 |_,_=>none
def Ut:bT X (compareOp .In) (rD X.K sIn):=by
 intro aa s σ H x y v u Q I M O q;refine eR q λB dx f d b U a c e q=>?_;cases a<;>try (cases e;done)
 cases c<;>try (cases e;done)
 cases e
 obtain⟨t,rfl⟩:=M;obtain⟨t',rfl⟩:=O;exact PySem.P.in_str ⟨.bl _,H,I,r4,q.one U (.bl _)⟩
def uH {aa:AO}{s:Shared}{σ:St}{H B:Hp}{ys:LV}{ds:LD}{us:LU}{Q:VK}{tk:Nat}(I:Inv X aa σ H s)(O:au B H)(q:Fin X.K B H (.lst ds) true Q)(U:aD ys us)(hl:IsL X.K B ys ds)(hz:ys.length<=sizeLine):
  EP X aa σ Q (.ref s.z) { s with heap:=s.heap.push { cls:=.type "list",data:=.seq us.toArray },toks:=tk }:=by
 have hp:H s.z=none:=I.hok.fresh (vT _);have M:=Ext.laid (o:=.lst ys) O hp;exact⟨.ref _,_,I.laid (λb o e=>vZ _ e) (vT _) (show aE X.prog X.w _ _ _ (.lst ys)from ⟨hz,us,0,U,vY _ r4⟩),r4,
  q _ _ _ M (.lst (dj.of ae) (hl.mono M.bn)) λy=>⟨_,_,_,r4,r4,hp,ae,hl.mono M.bn⟩⟩
theorem rZ:∀tk(zs:LS),aD (zs.map V.str) (strsFrom tk zs)
 |_,[]=>.nil
 |tk,_::zs=>.cons ⟨tk,r4⟩ (rZ _ zs)
@[simp] noncomputable def gM:D->D->OB
 |.str x,.str y=>if 0<y.length/\x.length<=100000 then some (.lst ((Txt.split x y).map .str),true)else none
 |_,_=>none
def mm (dx M)r(h:gM dx M=some r):∃z,dx=.str z:=by
 cases dx<;>first|exact⟨_,r4⟩|cases h
set_option tactic.hygienic true in
def uI:Kg X "str.split" (λx xs H Q=>∃y,xs=[y]/\rD X.K gM x y H Q):=by
 intro aa s σ H x xs v us Q I U a h;obtain⟨y,rfl,B,dx,f,d,g,O,b,c,M,q⟩:=h;obtain⟨i,rfl,e⟩:=cZ a;cases b<;>try (cases M;done)
 cases c<;>try (cases M;done)
 rename_i x y;simp only[gM]at M;split at M
 case isFalse=>cases M
 rename_i hh;cases M
 obtain⟨t,rfl⟩:=U;obtain⟨u,rfl⟩:=e;have hy:(y.length == 0)=false:=by simp;omega
 have hx:x.length<=sizeLine:=cC (by omega);have hn:(Txt.split x y).length<=sizeLine:=vR (split_le x y) (cC (by omega));unfold Txt.split at q hn;cases h1:(decide (x.length<y.length) || decide (Builtin.Str.strKind x<Builtin.Str.strKind y))
 .rw[h1,if_neg Z9]at q hn;cases hf:(Builtin.Str.occurrences x y 0 x.length (x.length+1)).isEmpty
  .rw[hf,if_neg Z9]at q hn;exact call_meets slot_str_split (typeIs_str _ _ _) entry_str_split (args_str_split_2 _ _) (meets_str_split_sep x y t u h1 hy hf hx hn) (uH I O q (rZ _ _) (gn _) (by rw[vI];exact hn))
  .rw[hf,if_pos r4]at q;exact call_meets slot_str_split (typeIs_str _ _ _) entry_str_split (args_str_split_2 _ _) (meets_str_split_not_found x y t u h1 hy hf) (uH I O q (ys:=[.str x]) (.cons (show aA (.str x) (.str x t)from ⟨t,r4⟩) .nil) (gn [x]) (cC X9))
 .rw[h1,if_pos r4]at q;exact call_meets slot_str_split (typeIs_str _ _ _) entry_str_split (args_str_split_2 _ _) (meets_str_split_cannot_occur x y t u h1) (uH I O q (ys:=[.str x]) (.cons (show aA (.str x) (.str x t)from ⟨t,r4⟩) .nil) (gn [x]) (cC X9))
end
noncomputable def Iq:D->Option Str
 |.int i=>if i.natAbs.log2<1920/\(Str.ofString (toString i)).length<=1000 then some (toString i)else none
 |.str x=>if x.length<=1000 then some x else none
 |_=>none
@[simp] def fJ3 (f:FE)(c:Str)(g:FE):FE:=λρ=>(f ρ).bind λx=>(g ρ).bind λy=>(Iq x.1).bind λa=>(Iq y.1).bind λb=>if c.length<=1000 then some (.str (Str.empty++a++c++b),false)else none
section
variable {X:Cx}
def Ir {aa:AO}{s:Shared}{σ:St}{H N:Hp}{v:V}{d:D}{u:Value}{z:Str}{Q:QV}{E:QV}(I:Inv X aa σ H s)(i:Is X.K N v d)(r:aA v u)(e:Iq d=some z)
  (h:∀(t:Tok)(tk:Nat),z.length<=1000->Inv X aa σ H { s with toks:=tk }->Q (.str z t) { s with toks:=tk }):wq X (formatField u Str.empty) Q E s:=by
 cases i<;>try (cases e;done)
 .unfold Iq at e;dsimp only at e;split at e
  .rename_i hn;cases e
   obtain⟨t,rfl⟩:=r;exact wpAny_formatField_int hn.1 (h _ _ hn.2 (I.tok _))
  .cases e
 .unfold Iq at e;dsimp only at e;split at e
  .rename_i hn;cases e
   obtain⟨t,rfl⟩:=r;exact wpAny_formatField_str (h t s.toks hn (I.tok _)) (h _ _ hn (I.tok _)) (cC (by omega))
  .cases e
variable {ea eb:Expr}{f g:FE}{p1 p2 p3 pos:Pos}{k:Nat}
def Q5 {c:Str}(ha:JE X ea f)(hb:JE X eb g):JE X (.JoinedStr [.FormattedValue ea (-1) none p1,.Constant (.str c) k p2,.FormattedValue eb (-1) none p3] pos) (fJ3 f c g):=by
 intro aa s σ H Q I h;refine cX λY u=>?_;obtain⟨B,ρ,d,S,o,rep,M,q⟩:=h;obtain⟨⟨x,T⟩,ex,M⟩:=oX M;obtain⟨⟨y,V⟩,p,M⟩:=oX M;refine eX M λa j M=>?_;refine eX M λb l M=>?_;apply u;split at M
 case isFalse=>cases M
 rename_i hc;cases M
 refine wpAny_JoinedStr (wpAny_FormattedValue_plain (aV (ha aa s σ H (λv U=>∃N,Ext B N H U/\Is X.K N v x) I ⟨B,ρ,_,_,o,rep,ex,λv U N O i1 _=>⟨N,O,i1⟩⟩) λu s1 r=>?_));refine cX λY u=>?_;obtain⟨v,U,w,z,N,O,i1⟩:=r;apply u;have W:(Str.empty:Str).length=0:=r4;refine Ir w i1 z j λt tk hz A=>⟨a,t,r4,cC (by rw[strLen_append];omega),?_⟩;refine aV (aC aa _ σ U (λv H2=>∃N2,Ext N N2 U H2/\v=.str c) A ⟨N,ρ,_,_,O.nh,rep.mono O.bn,r4,λv H2 N2 e i2 _=>⟨N2,e,by cases i2;rfl⟩⟩) λY s2 C=>?_;obtain⟨Z,H2,D,E,N2,e,rfl⟩:=C;obtain⟨t2,rfl⟩:=E;refine⟨c,t2,r4,cC (by rw[strLen_append,strLen_append];omega),?_⟩;refine wpAny_FormattedValue_plain (aV (hb aa s2 σ H2 (λv i=>∃N',Ext N2 N' H2 i/\Is X.K N' v y) D ⟨N2,ρ,_,_,e.nh,(rep.mono O.bn).mono e.bn,p,λv i N' m n _=>⟨N',m,n⟩⟩) λu3 s3 F=>?_);refine cX λY u=>?_;obtain⟨v3,i,G,J,N',m,n⟩:=F;apply u;refine Ir G n J l λt3 L P R=>⟨b,t3,r4,cC (by rw[strLen_append,strLen_append,strLen_append];omega),cC (by rw[strLen_append,strLen_append,strLen_append];omega),?_⟩;exact⟨.str _,i,R.tok _,⟨_,r4⟩,q _ _ _ ((O.trans e).trans m) (.str _) X9⟩
end
def xH:D->Bool
 |.non=>true
 |_=>false
noncomputable def Sc:D->Bool
 |.non=>true
 |.tup _=>true
 |_=>false
@[simp] noncomputable def nIn:D->D->OB
 |.non,.lst ds=>if ds.all Sc=true then some (.bl (ds.any xH),false)else none
 |_,_=>none
noncomputable def Iu:Value->Bool
 |.none=>true
 |_=>false
section
variable {X:Cx}
theorem Iv(I:Inv X aa σ H s)(M:au B H)(hu:A.units<cLine){vs:LV}{ds:LD}{us:LU}(f:aD vs us)(j:IsL X.K B vs ds)(h:ds.all Sc=true):us.any Iu=ds.any xH/\∀w∈us,PySem.SeqAt.EqAt A s w .none (Iu w):=by
 induction f generalizing ds with
 |nil=>cases j;exact⟨r4,λ_ h=>nomatch h⟩
 |cons r _ n=>cases j with|cons i a=>
  rw[all_cons,vD]at h;obtain⟨O,e2⟩:=n a h.2;rcases i with _|_|_|_|_|⟨hq,hl⟩|_|_|_|_<;>try (cases h.1;done)
  .cases r
   refine⟨by rfl,λw hw=>?_⟩;rcases vP hw with rfl|hw
   .exact PySem.SeqAt.EqAt.same _
   .exact e2 w hw
  .cases r
   refine⟨by rw[any_cons,any_cons,O];rfl,λw hw=>?_⟩;rcases vP hw with rfl|hw
   .refine I.tupE (aG M hq) λits _ p _=>?_;exact PySem.SeqAt.EqAt.tuple_none p hu
   .exact e2 w hw
set_option tactic.hygienic true in
def Uu (hu:X.A.units+40<cLine):bT X (compareOp .In) (rD X.K nIn):=by
 intro aa s σ H x y v u Q I O U q;refine eR q λB dx g d b M a c e q=>?_;cases a<;>try (cases e;done)
 cases c<;>try (cases e;done)
 rename_i hq hl;simp only[nIn]at e;split at e
 .rename_i ha;cases e
  cases O
  cases U
  refine I.lisE (M.seq hq) λits r pl hz=>?_;have h:=λ(A:Around) f=>Iv I M (A:=A) f r hl ha;refine SeqAt.in_listAt Iu pl.isList (λw hw=>(h _ ?_).2 w (by simpa using hw)) ⟨.bl _,H,I,r4,?_⟩
  .exact show X.A.units+1<cLine by omega
  .rw[show its.toArray.any Iu=its.any Iu by simp,(h X.A (by omega)).1];exact q.one M (.bl _)
 .cases e
end
end DL
namespace DL
open PySem PySem.Spec PyProof.Rows L2
def Mo(M:A.handled=none)it(z)t n(hn:z.cps[n]? = none):Draws prog w A it [it] n (λy y=>True) (λi h=>h.IsStrIter it "str_ascii_iterator" z t i/\i=n) where
 live:=λi h st=>let ⟨o,e,_⟩:=st.1;⟨o,e⟩
 frame:=λi h h' st O=>⟨let ⟨o,e,r⟩:=st.1;⟨o,O it X9 o e,r⟩,st.2⟩
 item:=λi s Q E hi st q=>absurd st.2 (vS hi)
 done:=λs Q E st=>wpAny_nextOf_ascii_end M st.1 hn
noncomputable def Q6 (z:Str):It:=⟨λi y=>i<z.cps.size,λi H v H'=>∃T c,v=.ref T/\H T=none/\H'=upd H T (.tup [.int i,.str ⟨#[c]⟩])/\z.cps[i]? = some c,λi y=>z.cps.size<=i⟩
def zZ {P:Program}{w:World}{K:Frag}{es:QD}{n:Nat}{pt:Pos}{z:Str}{t:Tok}{e it:Addr}(O:e≠it):
  Turn P w K (.Tuple es n pt) (Q6 z) [e,it] e (λi h=>(∃M,IsEnum h e it i M)/\h.IsStrIter it "str_ascii_iterator" z t i) where
 mem:=X9
 obj:=λi h st b hb=>by
  obtain⟨⟨M,he⟩,t1⟩:=st;simp at hb;rcases hb with rfl|rfl
  .exact⟨_,he,λv z=>by cases z⟩
  .obtain⟨o,a,_,p⟩:=t1;exact⟨o,a,λv k=>by rw[p]at k;cases k⟩
 keep:=λi h h' st d=>by
  obtain⟨⟨M,he⟩,o,a,r⟩:=st;exact⟨⟨M,d e X9 _ he⟩,o,d it X9 o a,r⟩
 item:=by
  intro X f hw g hc i aa s σ H E I hf st j;subst f hw g;obtain⟨⟨M,he⟩,t1⟩:=st;have l:i<z.cps.size:=j;have fresh:H s.z=none:=I.hok.fresh (vT _);have m:e≠s.z:=vS (vX he);have x:it≠s.z:=by obtain⟨o,q,Z⟩:=t1;exact vS (vX q)
  refine wpAny_pyNext_enum_itemD (Draws.strAscii (A:=X.A.in1) (I.ok.hd hc) it z t) he t1 l O (by simp[O]) λv h' tk y B C D hsz hk=>?_;obtain⟨c,u,F,rfl⟩:=y;refine⟨_,r4,wpAny_letOwnedTupleGo_enum (s:={ s with heap:=h',toks:=tk+1 }) B λh2 G s2=>?_⟩;have U:Heap.SameBut e h' h2:=s2;have d:∀b o,b∉[e,it]->s.heap.get? b=some o->h2.get? b=some o:=λb o hb q=>U.extBut _ _ (λz=>hb (by simp[z])) (hk b o (λz=>hb (by simp[z])) (λz=>hb (by simp[z])) q);refine⟨.ref s.z,upd H s.z (.tup [.int i,.str ⟨#[c]⟩]),wI (s:=s) (t':=tk+1) I hf d (vT _) ⟨by show 2<=sizeLine;decide,[.int i tk,.str ⟨#[c]⟩ u],.cons ⟨tk,r4⟩ (.cons ⟨u,r4⟩ .nil),⟨_,U.extBut _ _ m.symm D,r4,_,r4⟩⟩,r4,⟨_,c,r4,fresh,r4,F⟩,?_,λb hb=>?_⟩
  .refine⟨⟨_,by have:=G;rw[show((i:Int)+1)=((i+1:Nat):Int) by omega]at this;exact this⟩,?_⟩;obtain⟨o,a,r⟩:=C;exact⟨o,U.extBut _ _ O.symm a,r⟩
  .have J:b≠s.z:=by
    simp at hb;rcases hb with rfl|rfl
    .exact m
    .exact x
   rw[af J];exact(hf b hb).1
 done:=by
  intro X f hw g hc i aa s σ H E I hf st j;subst f hw g;obtain⟨⟨M,he⟩,t1⟩:=st;have l:z.cps.size<=i:=j;refine wpAny_pyNext_enum_endD (Mo (A:=X.A.in1) (I.ok.hd hc) it z t i (by simp;omega)) he ⟨t1,r4⟩ λh' hk=>⟨r4,?_⟩;exact gI (t':=s.toks) I hf λb o hb q=>hk b o (λz=>hb (by simp[z])) q
 self:=λZ Z Z Z Z st h=>let ⟨⟨_,he⟩,_⟩:=st;wpAny_pyIter_enum he h
section
variable {X:Cx}{a b e:Expr}{pos:Pos}{p:Pos}
@[simp] def Iw (fa:FE):FA:=λρ=>(fa ρ).bind λx=>match x.1 with
 |.str z=>if z.cps.all (· < 128)=true then some (mF (mC z))else none
 |_=>none
def Ix {K:Frag}z:iq K (Q6 z) N (mF (mC z)):=by
 intro i H' U;refine⟨λd ed=>?_,λhl=>?_⟩
 .unfold mF mC at ed;rw[List.getElem?_mapIdx,vB]at ed;obtain⟨x,f,rfl⟩:=oY ed;obtain⟨c,ec,rfl⟩:=oY f;have M:=by simpa using ec
  refine⟨(Array.getElem?_eq_some_iff.mp M).1,λr H2 hy=>?_⟩;obtain⟨T,j,rfl,g,rfl,O⟩:=hy;rw[M]at O;cases O;exact⟨_,Ext.laid (o:=.tup [.int i,.str ⟨#[c]⟩]) U g,.tup (dM.of ae) (.cons (.int _) (.cons (.str _) .nil))⟩
 .unfold mF mC at hl;show z.cps.size<=i;simpa using hl
set_option tactic.hygienic true in
def Iy {es:QD}{i:Nat}{pt:Pos}{fa:FE}(hm:X.mg "enumerate" = none)(ha:JE X a fa)(j:Gl X "enumerate")(hs:starEach [a] X.env=[(false,eval a X.env)]):
  JI X (.Tuple es i pt) (.Call (.Name "enumerate" p) [a] [] pos) (Iw fa):=by
 intro aa s σ H R I q;refine Call_ (dn I j hm mE (PyProof.Rows.callWith_type1 (aV (ag ha aB hs pos aa s σ H (λvs U=>∃z:Str,vs=[.str z]/\z.cps.all (· < 128)=true/\R (Q6 z) U) I ?_) λus s1 ⟨vs,U,c,k,l⟩=>?_) hs r4))
 .refine cX λG K=>?_;obtain⟨B,ρ,ds,m,r,O,q⟩:=q;refine eX O λn ex O=>?_;apply K;split at O
  .rename_i z hz;split at O
   .rename_i M;cases O
    refine⟨B,ρ,[n.1],m,r,by simp[ak,aI,ex],λvs U N1 o i1=>?_⟩;cases i1 with
    |cons f u=>
     cases u
     rw[hz]at f;cases f
     exact⟨z,r4,M,q _ U N1 o (Ix z)⟩
   .cases O
  .cases O
 .obtain⟨z,rfl,M,q⟩:=l;obtain⟨w,rfl,t,rfl⟩:=k.one;refine call_enumerate_str λh' g d hsz v=>?_;refine wpAny_pyIter_enum g ⟨s1.z+1,[s1.z+1,s1.z],_,_,U,r4,c.kept (t':=s1.toks) v,
   zZ (Nat.succ_ne_self _),⟨⟨_,g⟩,by simpa [strIterType,M]using d⟩,λb hb=>?_,q⟩
  have h:s1.z<=b:=by
   simp at hb;rcases hb with rfl|rfl
   .exact le_succ _
   .exact vT _
  exact c.fpOk h (c.hok.fresh h)
end
def Uv(F:Fn X.prog X.w X.K X.mg X.base k x f)(U:bB j X.A)(hj:k<=j)(a:Gl X x)(O:(x == ("__debug__" : Str))=false):JE X (.Call (.Name x p) [] [] M) (fA f aI):=by
 refine cX λG g=>?_;obtain⟨ad,fd,ps,c,hm,hk,hb⟩:=F.ex;apply g;refine PE.to (Gh c (U.mono hj) a hm hk hb .nil rl O) λσ H Q q=>cX λG g=>?_;obtain⟨B,ρ,d,b,s,r,e,q⟩:=q;apply g;exact⟨B,[],d,b,⟨s,r.tb⟩,.nil,e,q⟩
section
variable {α β:Type}
noncomputable def lk (l:List α):Nat->Option α:=List.rec (λz=>none) (λh z M n=>Nat.rec (some h) (λm z=>M m) n) l
theorem Iz:∀(l:List α)n,lk l n=l[n]?
 |[],_=>r4
 |_::_,0=>r4
 |_::l,n+1=>(Iz l n).trans List.getElem?_cons_succ.symm
noncomputable def sl (l:List α)(x:α):Nat->List α:=List.rec (λz=>[]) (λh t M n=>Nat.rec (x::t) (λm z=>h::M m) n) l
theorem IB (x:α):∀l n,sl l x n=l.set n x
 |[],_=>r4
 |_::_,0=>r4
 |h::l,n+1=>congrArg _ (IB x l n)
noncomputable def jV (e:β)(M:Bool->β)(O:Int->β)(fs:Str->β)(U fl:LD->β)(d:D):β:=@D.rec (λz=>β) (λz=>PUnit) e M O fs (λz=>e) (λds z=>U ds) (λds z=>fl ds) (λz z z=>e) (λz z z=>e) (λz z z z z=>e) ⟨⟩ (λz z z z=>⟨⟩) d
noncomputable def nl:D->Bool:=λd=>@D.rec (λz=>Bool) (λz=>Bool) true (λz=>true) (λz=>true) (λz=>true) (λz=>true) (λz M=>M) (λz z=>false) (λz z z=>false) (λz z z=>false) (λz z z z z=>false) true (λz z a b=>Bool.rec false b a) d
mutual
theorem IC:∀d,nl d=bc d
 |.non=>Et.symm
 |.bl b=>(Gy b).symm
 |.int b=>(Eu b).symm
 |.str b=>(Ev b).symm
 |.ty b=>(Gz b).symm
 |.tup ds=>(ID ds).trans (Ew ds).symm
 |.lst b=>(Ex b).symm
 |.dk a b=>(G0 a b).symm
 |.dt a b=>(G1 a b).symm
 |.ob a b c d=>(G2 a b c d).symm
theorem ID:∀ds,nl (.tup ds)=bP ds
 |[]=>yV.symm
 |d::ds=>by
  rw[fz,<-IC d,<-ID ds];show @Bool.rec (λ_=>Bool) false (nl (.tup ds)) (nl d)=_;cases nl d<;>rfl
end
noncomputable def Uw:D->Option Bool:=jV none some (λz=>none) (λz=>none) (λz=>none) λz=>none
noncomputable def Xr (xs:List α)(i:Int):Option α:=Int.rec (λj=>lk xs j) (λm=>qL xs (.negSucc m)) i
def IE (xs:List α)i:Xr xs i=qL xs i:=by
 cases i with
 |negSucc m=>rfl
 |ofNat j=>
  show lk xs j=_;rw[Iz];unfold qL NE;rw[if_pos (show 0<=Int.ofNat j from Int.natCast_nonneg j)];split
  .rfl
  .rename_i h;rw[getElem?_eq_none (Nat.not_lt.mp λz=>h (Int.ofNat_lt.mpr z))];rfl
end
noncomputable def fW (i:Nat):FE:=λρ=>Option.rec none (λo=>Option.rec none (λp=>some (p.1,false)) o) (lk ρ i)
def Oi:fW=ai:=by
 funext i ρ;unfold fW ai;rw[Iz];cases ρ[i]? with
 |none=>rfl
 |some o=>cases o<;>rfl
noncomputable def Q7 (op:D->D->OB)(fa M:FE):FE:=λρ=>Option.rec none (λx=>Option.rec none (λy=>op x.1 y.1) (M ρ)) (fa ρ)
def mn:Q7=f2:=by
 funext op fa M ρ;unfold Q7 f2;cases fa ρ with
 |none=>rfl
 |some x=>cases M ρ<;>rfl
noncomputable def Xs (op:D->OB)(fa:FE):FE:=λρ=>Option.rec none (λx=>op x.1) (fa ρ)
def Aa:Xs=f1:=by
 funext op fa ρ;unfold Xs f1;cases fa ρ<;>rfl
noncomputable def uJ (fa:FE)(fr:FA):FA:=λρ=>Option.rec none (λx=>Option.rec none (λxs=>some (x.1::xs)) (fr ρ)) (fa ρ)
def sg:uJ=ak:=by
 funext fa fr ρ;unfold uJ ak;cases fa ρ with
 |none=>rfl
 |some x=>cases fr ρ<;>rfl
noncomputable def Ol (op:LD->OB)(fa:FA):FE:=λρ=>Option.rec none op (fa ρ)
def mo:Ol=fA:=by
 funext op fa ρ;unfold Ol fA;cases fa ρ<;>rfl
noncomputable def Ab (f:FE):FT:=λρ=>Option.rec none (λx=>Uw x.1) (f ρ)
def jl:Ab=c8:=by
 funext f ρ;unfold Ab c8;cases f ρ with
 |none=>rfl
 |some x=>obtain⟨d,b⟩:=x;cases d<;>rfl
noncomputable def Bz (f g:FE):FE:=λρ=>Option.rec none (λx=>Option.rec none (λb=>Bool.rec (some (.bl false,false)) (g ρ) b) (Uw x.1)) (f ρ)
def xI:Bz=GF:=by
 funext f g ρ;unfold Bz GF;cases f ρ with
 |none=>rfl
 |some x=>obtain⟨d,b⟩:=x;cases d with
  |bl c=>cases c<;>rfl
  |_=>rfl
noncomputable def Mp (f g:FE):FE:=λρ=>Option.rec none (λx=>Option.rec none (λb=>Bool.rec (g ρ) (some (.bl true,false)) b) (Uw x.1)) (f ρ)
def B1:Mp=RU:=by
 funext f g ρ;unfold Mp RU;cases f ρ with
 |none=>rfl
 |some x=>obtain⟨d,b⟩:=x;cases d with
  |bl c=>cases c<;>rfl
  |_=>rfl
noncomputable def o0 (f g:D->D->OB)(fa M O:FE):FE:=λρ=>Option.rec none (λx=>Option.rec none (λy=>Option.rec none (λr=>Option.rec none (λb=>Bool.rec (some (.bl false,false)) (Option.rec none (λz=>g y.1 z.1) (O ρ)) b) (Uw r.1)) (f x.1 y.1)) (M ρ)) (fa ρ)
def pN:o0=lS:=by
 funext f g fa O M ρ;unfold o0 lS;cases fa ρ with
 |none=>rfl
 |some x=>cases O ρ with
  |none=>rfl
  |some y=>
   show @Option.rec _ _ _ _ _=match f _ _ with|some (.bl true,_)=>(M ρ).bind _|some (.bl false,_)=>some _|_=>none
   cases f _ _ with
   |none=>rfl
   |some r=>obtain⟨d,b⟩:=r;cases d with
    |bl c=>cases c with
     |false=>rfl
     |true=>cases M ρ<;>rfl
    |_=>rfl
noncomputable def B3 (f:FT):FT:=λρ=>Option.rec none (λb=>some (!b)) (f ρ)
def xJ:B3=eF:=by
 funext f ρ;unfold B3 eF;cases f ρ<;>rfl
noncomputable def B4 (f g:FT):FT:=λρ=>Option.rec none (λb=>Bool.rec (some false) (g ρ) b) (f ρ)
def xK:B4=gb:=by
 funext f g ρ;unfold B4 gb;cases f ρ with
 |none=>rfl
 |some b=>cases b<;>rfl
noncomputable def Mr (f g:FT):FT:=λρ=>Option.rec none (λb=>Bool.rec (g ρ) (some true) b) (f ρ)
def B5:Mr=io:=by
 funext f g ρ;unfold Mr io;cases f ρ with
 |none=>rfl
 |some b=>cases b<;>rfl
noncomputable def xL (tg:FG)(c:FT)(fe:FE)(ρ:Env)(l:LD):Option LD:=List.rec (some []) (λd z O=>Option.rec none (λM=>Option.rec none (λb=>Bool.rec O (Option.rec none (λx=>Option.rec none (λr=>some (x.1::r)) O) (fe M)) b) (c M)) (tg d ρ)) l
theorem xM (tg)c(fe)ρ:∀l,xL tg c fe ρ l=cF tg c fe ρ l
 |[]=>(Ez tg c fe ρ).symm
 |d::l=>by
  rw[jH,<-xM tg c fe ρ l];show @Option.rec _ (λz=>Option LD) _ _ _=_;cases tg d ρ with
  |none=>rfl
  |some M=>
   show @Option.rec _ (λz=>Option LD) _ _ _=Option.bind (c M) _;cases c M with
   |none=>rfl
   |some b=>cases b with
    |false=>rfl
    |true=>
     cases fe M with
     |none=>rfl
     |some x=>show @Option.rec _ (λz=>Option LD) _ _ (xL tg c fe ρ l)=Option.map _ _;cases xL tg c fe ρ l<;>rfl
noncomputable def uK (O:FA)(U:Nat)(M:LN)(tg:FG)(c:FT)(fe:FE):FE:=λρ=>Option.rec none (λitems=>Bool.rec none (Option.rec none (λds=>some (.lst ds,true)) (xL tg c fe (g9 U M ρ) items)) (Nat.ble items.length sizeLine)) (O ρ)
def si:uK=da:=by
 funext M O U tg c fe ρ;unfold uK da;cases M ρ with
 |none=>rfl
 |some l=>
  show @Bool.rec (λy=>OB) _ _ _=if l.length<=sizeLine then _ else _;rw[xM];cases h:Nat.ble _ _ with
  |true=>rw[if_pos (Nat.le_of_ble_eq_true h)];cases cF tg c fe _ l<;>rfl
  |false=>rw[if_neg λz=>by rw[Nat.ble_eq_true_of_le z]at h;cases h]
noncomputable def B6 (g h:FS):FS:=λρ=>Option.rec none (λr=>Res.rec (λρ'=>h ρ') (λd b=>some (.rt d b)) (λρ'=>some (.bk ρ')) (λρ'=>some (.ct ρ')) r) (g ρ)
def xN:B6=bZ:=by
 funext g h ρ;unfold B6 bZ;cases g ρ with
 |none=>rfl
 |some r=>cases r<;>rfl
noncomputable def Ms (c:FT)(g h:FS):FS:=λρ=>Option.rec none (λb=>Bool.rec (h ρ) (g ρ) b) (c ρ)
def B7:Ms=f6:=by
 funext c g h ρ;unfold Ms f6;cases c ρ with
 |none=>rfl
 |some b=>cases b<;>rfl
noncomputable def xO (i:Nat)(f:FE):FS:=λρ=>Option.rec none (λx=>some (.nx (Bool.rec (setE ρ i x.1 x.2) (sl ρ (some (x.1,false)) i) (nl x.1)))) (f ρ)
def pO:xO=cI:=by
 funext i f ρ;unfold xO cI;cases f ρ with
 |none=>rfl
 |some x=>
  show some _=some (Res.nx _);rw[IC,IB];cases h:bc _ with
  |false=>rfl
  |true=>unfold setE;rw[if_pos h]
noncomputable def B8 (f:FE):FS:=λρ=>Option.rec none (λx=>some (.rt x.1 x.2)) (f ρ)
def xP:B8=cq:=by
 funext f ρ;unfold B8 cq;cases f ρ<;>rfl
noncomputable def Q8 (tg:FG)(g:FS)(l:LD):Env->Option Res:=List.rec (λρ=>some (.nx ρ)) (λd z O ρ=>Option.rec none (λM=>Option.rec none (λr=>Res.rec (λρ'=>O ρ') (λd b=>some (.rt d b)) (λρ'=>some (.nx ρ')) (λρ'=>O ρ') r) (g M)) (tg d ρ)) l
theorem o4 (tg)g:∀(l)ρ,Q8 tg g l ρ=dr tg g l ρ
 |[],ρ=>(pb tg g ρ).symm
 |d::l,ρ=>by
  rw[lR];show @Option.rec _ (λz=>Option _) _ _ _=_;cases tg d ρ with
  |none=>rfl
  |some M=>
   show @Option.rec _ _ _ _ _=match g M with|some (.nx _)=>dr tg g l _|some (.ct ρ')=>dr tg g l _|some (.bk _)=>some _|r=>r
   cases g M with
   |none=>rfl
   |some r=>cases r with
    |nx ρ'=>exact o4 tg g l _
    |ct ρ'=>exact o4 tg g l _
    |_=>rfl
noncomputable def B9 (f:FA)(tg:FG)(g:FS):FS:=λρ=>Option.rec none (λds=>Q8 tg g ds ρ) (f (n8 ρ))
def xQ:B9=yX:=by
 funext f tg g ρ;unfold B9 yX;cases f _ with
 |none=>rfl
 |some l=>exact o4 tg g l ρ
noncomputable def uL (f:FA)(tg:FG)(g:FS):FS:=λρ=>Option.rec none (λds=>Q8 tg g ds ρ) (f ρ)
def sj:uL=f7:=by
 funext f tg g ρ;unfold uL f7;cases f ρ with
 |none=>rfl
 |some l=>exact o4 tg g l ρ
noncomputable def Ux (i:Nat):FG:=λd ρ=>some (sl ρ (some (d,false)) i)
def Ac:Ux=nA:=by
 funext i d ρ;unfold Ux nA;rw[IB]
noncomputable def YM (x y:D):OB:=jV none (λz=>none) (λz=>none) (λz=>eY x y) (λds=>jV none (λz=>none) (λi=>Option.rec none (λd=>some (d,false)) (Xr ds i)) (λz=>none) (λz=>none) (λz=>none) y) (λds=>jV none (λz=>none) (λi=>Option.rec none (λd=>some (d,false)) (Xr ds i)) (λz=>none) (λz=>none) (λz=>none) y) x
set_option tactic.hygienic true in
def pP:YM=eY:=by
 funext x y;cases x<;>first|rfl|skip
 all_goals
  cases y<;>first|rfl|skip
  rename_i ds i
  show @Option.rec _ (λ_=>OB) _ _ _=Option.map _ _
  rw[IE]
  cases qL ds i<;>rfl
noncomputable def Xt (x y:D):OB:=jV (jM x y) (λz=>jM x y) (λa=>jV (jM x y) (λz=>jM x y) (λb=>some (.bl (decide (a=b)),false)) (λz=>jM x y) (λz=>jM x y) (λz=>jM x y) y) (λa=>jV (jM x y) (λz=>jM x y) (λz=>jM x y) (λb=>some (.bl (PySem.W.Fast.sEq a b),false)) (λz=>jM x y) (λz=>jM x y) y) (λz=>jM x y) (λz=>jM x y) x
def IF:Xt=jM:=by
 funext x y;cases x<;>first|rfl|skip
 all_goals cases y<;>first|rfl|(simp)
noncomputable def Xu (x y:D):OB:=jV (i6 x y) (λz=>i6 x y) (λa=>jV (i6 x y) (λz=>i6 x y) (λb=>some (.bl (!decide (a=b)),false)) (λz=>i6 x y) (λz=>i6 x y) (λz=>i6 x y) y) (λa=>jV (i6 x y) (λz=>i6 x y) (λz=>i6 x y) (λb=>some (.bl (!PySem.W.Fast.sEq a b),false)) (λz=>i6 x y) (λz=>i6 x y) y) (λz=>i6 x y) (λz=>i6 x y) x
def IG:Xu=i6:=by
 funext x y;cases x<;>first|rfl|skip
 all_goals cases y<;>first|rfl|(simp)
noncomputable def Sd (a:Str)(ds:LD):Option Bool:=List.rec (some false) (λd z M=>jV none (λz=>none) (λz=>none) (λs=>Option.rec none (λb=>some (Bool.rec b true (PySem.W.Fast.sEq s a))) M) (λz=>none) (λz=>none) d) ds
theorem xR:∀ {ds:LD}{b:Bool},Sd a ds=some b->ds.all dO=true/\RV (.str a) ds=b
 |[],b,h=>by cases h;exact⟨r4,r4⟩
 |d::ds,b,h=>by
  cases d with
  |str s=>
   have h:@Option.rec _ (λz=>Option _) _ _ (Sd a ds)=some b:=h;cases e:Sd a ds with
   |none=>rw[e]at h;cases h
   |some M=>
    rw[e]at h;obtain⟨h1,h2⟩:=xR e;cases h
    unfold RV at h2 |-;refine⟨by simp[h1],?_⟩;rw[any_cons,h2,f9,ui];cases decide (s=a)<;>rfl
  |_=>cases h
noncomputable def Xv (x y:D):OB:=jV (qI x y) (λz=>qI x y) (λz=>qI x y) (λa=>jV (qI x y) (λz=>qI x y) (λz=>qI x y) (λz=>qI x y) (λds=>Option.rec (qI x y) (λb=>some (.bl b,false)) (Sd a ds)) (λz=>qI x y) y) (λz=>qI x y) (λz=>qI x y) x
set_option tactic.hygienic true in
def uM:Xv=qI:=by
 funext x y;cases x<;>first|rfl|skip
 rename_i a;cases y<;>first|rfl|skip
 rename_i ds;show @Option.rec _ _ _ _ _=_;cases e:Sd a ds with
 |none=>rfl
 |some b=>
  obtain⟨h1,h2⟩:=xR e;exact((if_pos ⟨r4,h1⟩).trans (by rw[h2])).symm
noncomputable def Ad (x y:D):OB:=Option.rec none (λz=>Option.rec none (λb=>some (.bl (!b),false)) (Uw z.1)) (Xv x y)
def Fh:Ad=yZ:=by
 funext x y;unfold Ad;rw[uM];unfold qI yZ;cases gU y with
 |none=>rfl
 |some ds=>
  show @Option.rec _ (λz=>OB) _ _ (if dO x=true/\ds.all dO=true then _ else _)=if dO x=true/\ds.all dO=true then _ else _;split<;>rfl
noncomputable def Q9 (k:Nat)(n:Nat):LD->Option Env:=Nat.rec (λds=>List.rec (some (Nat.rec [] (λz M=>none::M) k)) (λz z z=>none) ds) (λz M ds=>List.rec none (λd r z=>Option.rec none (λe=>some (some (d,false)::e)) (M r)) ds) n
theorem BA k:∀n ds,Q9 k n ds=if ds.length=n then some (ds.map (λd=>some (d,false))++List.replicate k none)else none
 |0,[]=>by
  refine congrArg some ?_;induction k with
  |zero=>rfl
  |succ k M=>exact congrArg _ M
 |0,d::ds=>r4
 |n+1,[]=>r4
 |n+1,d::ds=>by
  show @Option.rec _ (λy=>Option _) _ _ (Q9 k n ds)=_;rw[BA k n ds,vE];by_cases h:ds.length=n
  .rw[if_pos h,if_pos (by rw[h])];rfl
  .rw[if_neg h,if_neg λz=>h (Nat.succ.inj z)]
noncomputable def am (g:FS)(n k:Nat):LD->OB:=λds=>Option.rec none (λρ=>Option.rec none (λr=>Res.rec (λz=>some (.non,false)) (λd b=>some (d,b)) (λz=>none) (λz=>none) r) (g ρ)) (Q9 k n ds)
def xS:am=f8:=by
 funext g n k ds;unfold am f8;rw[BA];by_cases h:ds.length=n
 .rw[if_pos h,if_pos h];show @Option.rec _ (λz=>OB) _ _ _=_;cases g _ with
  |none=>rfl
  |some r=>cases r<;>rfl
 .rw[if_neg h,if_neg h]
structure Gq where
 fs:List (Str×Nat×(List D->OB))
 cs:List (Str×D)
 ds:List (Str×List (Str×D))
 no:List Str
 ls:List Str
structure Gq.Ok (g:Gq)(P:Program)(w:World)(K:Frag)(mg:Str->Option Value)(base:Heap):Prop where
 hx:∃h,K.In h/\h.Ns mainGlobals mg
 fs:∀t∈g.fs,Fn P w K mg base t.2.1 t.1 t.2.2
 cs:∀t∈g.cs,KC K mg t.1 t.2
 ds:∀t∈g.ds,KD w K mg t.1 t.2
 no:∀x∈g.no,mg x=none
 ls:∀x∈g.ls,xu K x
structure Sq where
 g:Gq
 N:List Str
 sc:Scope
 cl:List Str
 k:Nat
 fn:Bool
 q:Option Str
structure Yq (S:Sq) where
 prog:Program
 w:World
 K:Frag
 mg:Str->Option Value
 base:Heap
 A:Around
 s:Shared
 H:Hp
 env:PySem.Env
 outer:List PySem.Env
 stack:List PySem.Env
 ex:List Addr
 rm:bB S.k A
 cl:∀x∈S.cl,(env.cells.lookup x).isSome
 nd:S.N.Nodup
 ok:S.g.Ok prog w K mg base
 ql:∀x,S.q=some x->env.qual=x ++ ".<locals>."/\∀c P,PySem.W.tabIn K x=some (c,P)->env.code=.ref c
noncomputable abbrev bH (S:Sq)(d:Yq S):Cx:=⟨d.prog,d.w,d.K,d.mg,d.base,d.A,S.N,d.s,d.H,{ d.env with scope:=S.sc },d.outer,d.stack,d.ex,λz=>S.fn,true,[],λz z=>False⟩
abbrev sk (S:Sq)(e:Expr)(f:FE):Prop:=∀d:Yq S,JE (bH S d) e f
abbrev xT (S:Sq)(e:Expr)(f:FT):Prop:=∀d:Yq S,JT (bH S d) e f
abbrev Om (S:Sq)(e:Expr)(f:FT):Prop:=∀d:Yq S,JW (bH S d) e f
abbrev IH (S:Sq)(e:Stmt)(f:FS):Prop:=∀d:Yq S,JS (bH S d) e f
abbrev Oo (S:Sq)(e:List Stmt)(f:FS):Prop:=∀d:Yq S,yY (bH S d) e f
structure Oj {α:Type}(J:α->Prop) where
 f:α
 ok:Bool
 p:ok->J f
abbrev bi {α:Type}(J:α->Prop):=LN->Option (Oj J×LN)
section
variable {α β γ δ:Type}{J J':α->Prop}{J1:β->Prop}{J2:γ->Prop}{J3:δ->Prop}
noncomputable def bJ (k:Nat->bi J):bi J
 |[]=>none
 |i::h=>k i h
def BB:Nat->(LN->bi J)->bi J
 |0,k=>k []
 |n+1,k=>bJ λi=>BB n λl=>k (i::l)
noncomputable def bS:(l:List β)->Nat->((a:β)->a∈l->bi J)->bi J
 |[],_,_=>λz=>none
 |a::_,0,k=>k a mX
 |_::l,i+1,k=>bS l i λb h=>k b (mZ _ h)
def BC(h:(a && b)=true):a:=by simp_all
def BD(h:(a && b)=true):b:=by simp_all
noncomputable def cN (c:Prop)[Decidable c](f:α)(k:c->J f):bi J:=λh=>some (⟨f,decide c,λe=>k (mw e)⟩,h)
noncomputable def mL (k:∀x,J x->J' x)(m:bi J):bi J':=λh=>match m h with
 |some (⟨f,o,p⟩,h)=>some (⟨f,o,λe=>k f (p e)⟩,h)
 |none=>none
noncomputable def bC (c:Prop)[Decidable c](g:α->β)(k:c->∀x,J x->J1 (g x))(m:bi J):bi J1:=λh=>match m h with
 |some (⟨f,o,p⟩,h)=>some (⟨g f,decide c && o,λe=>k (mw (BC e)) f (p (BD e))⟩,h)
 |none=>none
def bW (c:Prop)[Decidable c](g:α->β->γ)(k:c->∀x y,J x->J1 y->J2 (g x y))(m:bi J)(n:bi J1):bi J2:=λh=>match m h with
 |some (⟨f,o,p⟩,h)=>bC (c/\o) (g f) (λe y=>k e.1 f y (p e.2)) n h
 |none=>none
def sr (c:Prop)[Decidable c](g:α->β->γ->δ)(k:c->∀x y z,J x->J1 y->J2 z->J3 (g x y z))(m:bi J)(n:bi J1)(o:bi J2):bi J3:=λh=>match m h with
 |some (⟨f,b,p⟩,h)=>bW (c/\b) (g f) (λe y z=>k e.1 f y z (p e.2)) n o h
 |none=>none
end
abbrev pQ (S:Sq)(i:Nat)(x:Str):Prop:=S.N[i]? = some x/\(S.sc.names.lookup x=some .local\/S.sc.names.lookup x=some .cell\/S.sc.names.lookup x=some .free)/\aS x/\km x
abbrev fE (S:Sq)(i:Nat)(x:Str):Prop:=S.N[i]? = some x/\(S.sc.names.lookup x=some .local\/S.sc.names.lookup x=some .cell)/\(S.fn\/S.sc.names.lookup x=some .local)
abbrev mM (S:Sq)(x y:Str):Prop:=x=y/\S.sc.names.lookup x=some .globalImplicit/\aS x
abbrev eQ (S:Sq)(x y:Str):Prop:=mM S x y/\x∈S.g.no/\x ≠ "__name__"
noncomputable def bd:Expr->Bool
 |.Starred .. | .Slice .. | .Set .. | .SetComp .. | .DictComp ..=>false
 |_=>true
def su:Expr->Bool
 |.ListComp ..=>false
 |e=>bd e
noncomputable def Op:Expr->Bool
 |.UnaryOp .Not .. | .BoolOp .. | .IfExp .. | .Compare ..=>false
 |_=>true
noncomputable def pR:Expr->Bool
 |.Call _ [] ..=>false
 |_=>true
section
variable {e:Expr}{es:QD}{env:PySem.Env}{p:Pos}
def aJ (h:bd e):bE e es env:=by cases e<;>first|rfl|cases h
theorem mq:∀ {es:QD},(∀e∈es,bd e)->dL p es env
 |[],_=>r4
 |e::es,h=>by
  have:=mq (es:=es) λa m=>h a (by simp[m]);rw[dL,aJ (h e X9)];simp_all [backTo]
def lf (h:bd e)x:foldedSetIterable e env x=pure x:=by cases e<;>first|rfl|cases h
def iN(h:bd e):behindInMarks op e=false:=by cases e<;>first|rfl|cases h
def lg (h:bd e):k7 e:=by cases e<;>first|(intro z z;rfl)|cases h
def iO(h:su e):swapsWith e (some t) n env=pure false:=by cases e<;>first|rfl|cases h
def eU(h:pR e):attributeBase e a env w=w:=by
 cases e with
 |Call f as=>cases as with
  |nil=>cases h
  |cons b l=>cases f<;>rfl
 |_=>rfl
def dX (h:bd e):m4 p e env:=by
 rw[m4,aJ h];rfl
def II (h:Op e)M:isTrue e env M=(do let v <-M;standAt e.pos;holding [v] (truthy v)):=by
 cases e with
 |UnaryOp op=>cases op<;>first|rfl|cases h
 |_=>first|rfl|cases h
end
structure Bq where
 op:Operator
 f:D->D->OB
 p:∀ {X:Cx},bT X (binaryOp op) (rD X.K f)
structure Cq where
 op:CmpOp
 f:D->D->OB
 p:∀ {X:Cx},X.A.units+40<cLine->bT X (compareOp op) (rD X.K f)
structure Tq where
 x:Str
 n:String
 b:bootBuiltins x=some (.type n)
structure Fq where
 x:Str
 f:List D->OB
 c:∀ {X:Cx}{e:Expr}{es:List Expr}{fa:FA}{p q:Pos},X.calm->X.mg x=none->JA X (e::es) fa->Gl X x->x ≠ "__name__"->aS x->bE e es X.env->dL q es X.env->JE X (.Call (.Name x p) (e::es) [] q) (fA f fa)
noncomputable def sv {x:Str}{i:String}{f:LD->OB}(b:bootBuiltins x=some (.builtin i))(c:∀ {X:Cx},X.calm->aY X (.builtin i) (wl X.K f)):Fq:=⟨x,f,λh m a g n d s t=>de (c h) m b a g n d s t⟩
noncomputable def sw {x:Str}{i:String}{f:LD->OB}(b:bootBuiltins x=some (.type i))(c:∀ {X:Cx},X.calm->aY X (.type i) (wl X.K f)):Fq:=⟨x,f,λh m a g n d s t=>dU (c h) m b a g n d s t⟩
structure Uq where
 x:Str
 y:Str
 f:D->OB
 p:∀ {X:Cx}{e:Expr}{g:FE}{p p2 q q2:Pos},X.calm->X.mg x=none->X.mg y=none->JE X e g->Gl X x->Gl X y->ce e X.env->JE X (.Call (.Name x p) [.Call (.Name y p2) [e] [] q2] [] q) (f1 f g)
structure Mq where
 n:Str
 f:D->D->OB
 p:∀ {X:Cx}{o e:Expr}{fo fe:FE}{ap cp:Pos},X.A.units+1<cLine->JE X o fo->JE X e fe->pR o->bd e->ap.endLine == cp.line->JE X (.Call (.Attribute o n ap) [e] [] cp) (f2 f fo fe)
def QA:List Bq:=[⟨_,_,fN⟩,⟨_,_,PL⟩,⟨_,_,AG⟩,⟨_,_,Q2⟩,⟨_,_,GG⟩,⟨_,_,NJ⟩,⟨_,_,Tv⟩,⟨_,_,Tu⟩,⟨_,_,YK⟩,⟨_,_,Us⟩]
def Ae:List Cq:=[⟨_,_,λz=>NM⟩,⟨_,_,λz=>Yv⟩,⟨_,Xt,λh=>IF ▸ w6 h⟩,⟨_,_,λz=>T4⟩,⟨_,Xu,λh=>IG ▸ jx h⟩,⟨_,_,λz=>Y0⟩,⟨_,Xv,λz=>uM ▸ GL⟩,⟨_,_,λz=>Lp⟩,⟨_,_,λz=>Tw⟩,⟨_,_,λz=>Ut⟩,⟨_,_,Uu⟩,⟨_,Ad,λz=>Fh ▸ GN⟩,⟨_,_,Uc⟩]
noncomputable def QB:List Tq:=[⟨_,_,wA⟩,⟨_,_,PN⟩,⟨_,_,nX⟩,⟨_,_,wB⟩,⟨_,_,pi⟩]
def QC:List Fq:=[sv kK λz=>mB,sw wB λz=>Ip,sw wA λz=>Ha,sv dR λz=>kL,sv T7 λh=>TD h,sv dR λz=>rT,sw nX λz=>AW,sw wA λz=>Q4,sw Qq λh=>Qr h,sv TH λh=>TF h,sv xg λh=>Fe h,sw pi λz=>Qb]
def QE:List Uq:=[⟨_,_,_,λa b c d e f g=>z9 a b c d e f g⟩,⟨_,_,_,λa b c d e f g=>EL a b c d e f g⟩,⟨_,_,_,λa b c d e f g=>zY a b c d e f g r4⟩]
def QF:List Mq:=[⟨_,_,λz x y a b c=>iC slot_str_join type_str_join uu kQ x y (eU a) (dX b) c (aJ b)⟩,⟨_,_,λz x y a b c=>iC slot_str_split type_str_split uI mm x y (eU a) (dX b) c (aJ b)⟩,⟨_,_,λhu x y a b c=>Hz hu x y ⟨eU a,dX b,c,by rw[aJ b];rfl⟩⟩]
structure Rj where
 E:∀S e,bi (sk S e)
 T:∀S e,bi (xT S e)
 W:∀S e,bi (Om S e)
noncomputable def IJ (o sc:Scope):Scope:={ sc with names:=sc.names.map λ(n,k)=>if(k == .free && o.kind == .function && o.names.lookup n == some .cell)then (n,.cell)else (n,k) }
noncomputable def IK (sc:Scope):LS:=sc.names.filterMap λy=>if y.2=.free then some y.1 else none
def uN (S:Sq)(N:LS)(sc:Scope):Sq:=⟨S.g,N,IJ S.sc sc,IK sc,S.k,false,S.q⟩
abbrev Uy (S:Sq)(N:LS)(sc M:Scope)(j i:Nat):Prop:=∃x∈N[j]?,S.N[i]? = some x/\(S.sc.names.lookup x=some .cell\/S.sc.names.lookup x=some .free)/\(M.names.lookup x=some .cell\/M.names.lookup x=some .free)/\(x,NameKind.free)∈sc.names/\x∈S.cl
noncomputable def pT (S:Sq)(N:LS)(sc M:Scope):Nat->LN->Bool
 |j,[]=>N.length=j
 |j,i::r=>Uy S N sc M j i && pT S N sc M (j+1) r
section
variable {S:Sq}{N:LS}{sc:Scope}
theorem mr d{M:LN}{j:Nat}(h:pT S N sc (IJ S.sc sc) j M):hG (bH S d) N sc (cc sc.names d.env.cells []) j M:=by
 induction M generalizing j with
 |nil=>exact .nil (mw h)
 |cons _ _ n=>obtain⟨_,e,a,b,c,f,g⟩:=mw (BC h);exact .cons e a b c (nQ f (d.cl _ g)) (n (BD h))
abbrev IL (S:Sq)(N:LS)(sc:Scope):Prop:=N.Nodup/\(∀y∈sc.names,y.2≠.cell)/\sc.kind=.function/\(∀y∈sc.names,y.2=.local->sc.names.lookup y.1=some .local)/\∀y∈sc.names,y.2=.free->y.1∈S.cl
def ms (d:Yq S)(h:∀z∈sc.names,z.2=.free->z.1∈S.cl):(sc.names.all λy=>!(y.2 == NameKind.free) || (d.env.cells.lookup y.1).isSome)=true:=by
 rw[all_eq_true];intro y hy;cases hk:y.2 == NameKind.free with
 |false=>rfl
 |true=>exact d.cl _ (h y hy (by simpa using hk))
def xU (d:Yq S)(h:∀z∈sc.names,z.2=.free->z.1∈S.cl):∀x∈IK sc,((cc sc.names d.env.cells []).lookup x).isSome:=λx hx=>by
 obtain⟨⟨M,k⟩,hy,e⟩:=mem_filterMap.mp hx;split at e
 .rename_i hk;cases e
  cases hk
  rw[nQ hy (d.cl _ (h _ hy r4))];exact d.cl _ (h _ hy r4)
 .cases e
def Yq.inn (d:Yq S)(h:IL S N sc)(C:Addr)(s:Shared)(H:Hp)(fp:List Addr):Yq (uN S N sc):=⟨d.prog,d.w,d.K,d.mg,d.base,d.A,s,H,compEnvC sc (cc sc.names d.env.cells []) C { d.env with scope:=S.sc },d.stack,d.stack,fp,d.rm,xU d h.2.2.2.2,h.1,d.ok,d.ql⟩
end
section
variable (r:Rj) (S:Sq)
def pU:(es:QD)->bi λf=>∀d,JA (bH S d) es f
 |[]=>cN True aI λz z=>aB
 |e::es=>bW (bd e) uJ (by rw[sg];exact(λh z z x y d=>ag (x d) (y d) (aJ h))) (r.E S e) (pU es)
def Oq:(e:Option Expr)->bi λf=>∀d,JO (bH S d) e f
 |none=>cN True kI λz z=>nV
 |some e=>bC True j4 (λz z x d=>nW (x d)) (r.E S e)
def IM (i:Nat)(p:Pos):(a:Expr)->(ops:List CmpOp)->(bs:QD)->bi λf=>sk S (.Compare a ops bs p) f/\xT S (.Compare a ops bs p) (c8 f)
 |a,[op],[b]=>bS Ae i λ⟨M,f,q⟩ w=>bW (op=M/\bd b) (Q7 f) (by rw[mn];exact(λ⟨h,k⟩ w w x y=>by
   subst h;exact⟨λd=>GB (q (gg d.rm)) (x d) (y d) (iN k),λd=>bw (q (gg d.rm)) (x d) (y d) (iN k)⟩)) (r.E S a) (r.E S b)
 |a,[op,M],[b,c]=>bJ λj=>bS Ae i λ⟨o1,f,q⟩ w=>bS Ae j λ⟨U,g,O⟩ w=>sr (op=o1/\M=U/\bd c) (o0 f g) (by rw[pN];exact(λ⟨h,h',k⟩ w w w x y z=>by
   subst h h';have hm:lastMarks [op,M] [b,c]=false:=iN k;exact⟨λd=>GC (q (gg d.rm)) (O (gg d.rm)) (x d) (y d) (z d) hm,λd=>GD (q (gg d.rm)) (O (gg d.rm)) (x d) (y d) (z d) hm⟩)) (r.E S a) (r.E S b) (r.E S c)
 |_,_,_=>λw=>none
def Ot (tg it:Expr):bi λf=>∀d,JI (bH S d) tg it f:=bJ λi=>match i,tg,it with
  |0,_,e=>bC True lV (λz z x d=>lW (x d)) (r.E S e)
  |2,_,.Call (.Name x _) [a] [] _=>bC (eQ S x "range"/\bd a) iA (λ⟨⟨⟨h,g⟩,m⟩,n⟩ z x d=>by subst h;exact GQ (d.ok.no _ m.1) (x d) g.1 (aJ n)) (r.E S a)
  |3,.Tuple ..,.Call (.Name x _) [a] [] _=>bC (eQ S x "enumerate"/\bd a) NQ (λ⟨⟨⟨h,g⟩,m⟩,n⟩ z x d=>by subst h;exact LA (d.ok.no _ m.1) (x d) g.1 (aJ n)) (r.E S a)
  |4,.Tuple ..,.Call (.Name x _) [a,b] [] _=>bW (eQ S x "zip"/\bd a/\bd b) L5 (λ⟨⟨⟨h,g⟩,m⟩,n,k⟩ z z x y d=>by subst h;exact GW (d.ok.no _ m.1) (x d) (y d) g.1 (by rw[aJ n,aJ k];rfl) (aJ k)) (r.E S a) (r.E S b)
  |9,.Tuple ..,.Call (.Name x _) [a] [] _=>bC (eQ S x "enumerate"/\bd a) Iw (λ⟨⟨⟨h,g⟩,m⟩,n⟩ z x d=>by subst h;exact Iy (d.ok.no _ m.1) (x d) g.1 (aJ n)) (r.E S a)
  |5,_,.Call (.Attribute e n ap) [] [] cp=>bC (n = "values"/\pR e/\ap.endLine == cp.line) HQ (λ⟨h,n,l⟩ z x d=>by subst h;exact Mf (x d) (eU n) l) (r.E S e)
  |6,.Tuple ..,.Call (.Attribute e n ap) [] [] cp=>bC (n = "items"/\pR e/\ap.endLine == cp.line) Br (λ⟨h,n,l⟩ z x d=>by subst h;exact Ib (x d) (eU n) l) (r.E S e)
  |_,_,_=>λz=>none
def Uz:(es:QD)->bi λf=>∀d,JC (bH S d) es f
 |[]=>cN True dN λz z=>jI
 |[e]=>mL (λz x d=>P4 (x d)) (r.T S e)
 |_=>λz=>none
theorem BE d(h:fE S i x):PG (bH S d) (.Name x p) (fu i):=Qv i d.nd h.1 h.2.1 h.2.2
theorem Ou d(h:fE S i x)(g:fE S j y):PG (bH S d) (.Tuple [.Name x p,.Name y q] k s) (FW d.K 2 (gH [i,j])):=t7 r4 (cK (BE S d h) (cK (BE S d g) kx))
def U0:(tg:Expr)->Option ((N:LS) ×' (n:Nat) ×' (M:FG) ×' ∀S:Sq,(∀i (h:i<N.length),fE S i N[i])->∃t:Frag->TG,(∀d:Yq S,PG (bH S d) tg (t d.K))/\∀K,FJ K n M (t K))
 |.Name x _=>some ⟨[x],1,Ux 0,by rw[Ac];exact λz h=>⟨λz=>fu 0,λd=>BE _ d (h 0 X9),λz=>kG Z9⟩⟩
 |.Tuple [.Name x _,.Name y _] _ _=>some ⟨[x,y],2,TL [0,1],λz h=>⟨λK=>FW K 2 (gH [0,1]),λd=>Ou _ d (h 0 X9) (h 1 X9),λz=>AT Z9⟩⟩
 |_=>none
abbrev U1 (S:Sq)(e:Expr)(f:FE):Prop:=sk S e f/\∀y M sp i,fE S i y->(∀d:Yq S,swapsWith e (some (.Name y M)) sp.line (bH S d).env=pure true)->S.sc.names.lookup y=some .local->IH S (.Assign [.Name y M] e sp) (cI i f)
def IN (e tg it:Expr)(f:QD)(g:Int)(sc:Scope)(p:Pos):bi (U1 S (.ListComp e [⟨tg,it,f,g⟩] sc p)):=bJ λn=>BB n λU=>match U0 tg with
 |none=>λz=>none
 |some ⟨N,n,j,q⟩=>(λM h=>match Ot r S tg it h with
  |none=>none
  |some (⟨k,o,a⟩,h)=>bW (g=0/\bd it/\o/\IL S M sc/\pT S M sc (IJ S.sc sc) n U/\∀i (h:i<N.length),fE (uN S M sc) i N[i]) (uK k n U j) (by rw[si];exact(λ⟨h,hn,o,O,hc,l⟩ z z b c=>by
    subst h;obtain⟨t,pg,tg⟩:=q _ l;exact⟨λd=>Bp _ (a o d) (b (d.inn O _ _ _ _)) (c (d.inn O _ _ _ _)) (tg _) (pg (d.inn O _ _ _ _)) (mr d hc) (HR O.2.1 O.2.2.1 O.2.2.2.1 (ms d O.2.2.2.2)) r4 λx=>lf hn x,
     λz z z z hy hs hl d=>Ob _ d.nd (a o d) (b (d.inn O _ _ _ _)) (c (d.inn O _ _ _ _)) (tg _) (pg (d.inn O _ _ _ _)) (mr d hc) hy.1 hl (hs d) (HR O.2.1 O.2.2.1 O.2.2.2.1 (ms d O.2.2.2.2)) r4 λx=>lf hn x⟩)) (Uz r (uN S M sc) f) (r.E (uN S M sc) e) h) (N++U.map (S.N.getD · ""))
end
section
variable (r:Rj) (S:Sq)
theorem IP:bindArgs (PySem.W.kla_fn "<lambda>" q ⟨[],[⟨y,an,ap⟩],none,[],[],none,[]⟩ b sc cl pm (.ref c) M) ⟨[u],[]⟩=pure [(y,u)]:=by
 have e:List.lookup y [(y,u)]=some u:=X9
 unfold bindArgs PySem.W.kla_fn;simp[e,seqItems?];rfl
theorem sx {S:Sq}(hn:∀z∈sc.names,z.2≠.cell)d{M:LN}{j:Nat}(h:pT S N sc sc j M):jc (bH S d) N sc (cc sc.names d.env.cells []) j M:=by
 induction M generalizing j with
 |nil=>exact .nil (mw h)
 |cons _ _ n=>obtain⟨_,e,a,b,c,f,g⟩:=mw (BC h);exact .cons e a b (c.resolve_left λz=>hn _ (PySem.mem_of_lookup z) r4) (nQ f (d.cl _ g)) (n (BD h))
def IQ (S:Sq)(N:LS)(sc:Scope):Sq:=⟨S.g,N,sc,IK sc,S.k - 3,false,none⟩
abbrev IS (S:Sq)(N:LS)(sc:Scope)(y:Str)(M:LN):Prop:=N.Nodup/\(∀z∈sc.names,z.2≠.cell)/\sc.kind=.function/\sc.isCoroutine=false/\sc.isGenerator=false/\sc.names.lookup y=some .local/\(∀z∈sc.names,z.2=.free->z.1∈S.cl)/\3<=S.k/\(∃x∈S.q,x∈ij/\x∈S.g.ls)/\pT S N sc sc 1 M
theorem xV {S:Sq}(h:IS S (y::N) sc y M)(hb:sk (IQ S (y::N) sc) b a)d(g:A.frames=d.A.frames)(i:bB (S.k - 3+1) A):
  JK (bH S d) A (.Lambda ⟨[],[⟨y,an,ap⟩],none,[],[],none,[]⟩ b sc p) (Ql M a):=
 let ⟨h1,h2,h3,h4,h5,j,e,_,⟨x,hx,l,O⟩,hc⟩:=h
 Qm l (d.ok.ls _ O) (d.ql x hx).2 (by rw[(d.ql x hx).1];rfl) r4 (TU h2 h3 h4 h5 j (ms d e)) r4 (sx h2 d hc) g i (λv v v v=>IP) λf c s H U=>hb ⟨d.prog,d.w,d.K,d.mg,d.base,_,s,H,PySem.W.envX _ sc s.z f _ _,d.stack,_,[],U,xU d e,h1,d.ok,λv z=>nomatch z⟩
def BF:(U:Expr)->bi λa=>∀d:Yq S,JK (bH S d) d.A.in1 U a/\JK (bH S d) d.A.in1.in1 U a
 |.Name x _=>bJ λj=>bS S.g.fs j λ⟨y,k,F⟩ m=>cN (mM S x y/\k+2<=S.k) (TV F) λ⟨⟨e,h⟩,hk⟩ d=>by
   subst e;exact⟨NU (d.ok.fs _ m) ((d.rm.mono (vR (le_succ _) hk)).in1) r4 h.1 h.2,NU (d.ok.fs _ m) ((d.rm.mono hk).in1.in1) r4 h.1 h.2⟩
 |.Lambda ⟨[],[⟨y,an,ap⟩],none,[],[],none,[]⟩ b sc p=>bJ λn=>BB n λM=>bC (IS S (y::M.map (S.N.getD · "")) sc y M) (Ql M) (λO z q d=>by
    have hk:S.k - 3+2+1<=S.k:=by have:=O.2.2.2.2.2.2.2.1;lia
    exact⟨xV O q d r4 ((d.rm.mono hk).in1.mono (le_succ _)),xV O q d r4 (d.rm.mono hk).in1.in1⟩) (r.E (IQ S (y::M.map (S.N.getD · "")) sc) b)
 |_=>λz=>none
def QG (p:Pos):(f:Expr)->(as:QD)->(ks:List Keyword)->bi (sk S (.Call f as ks p))
 |.Name x _,[],[]=>bJ λi=>bS S.g.fs i λ⟨y,k,F⟩ m=>cN (mM S x y/\k<=S.k) (Ol F aI) (by rw[mo];exact(λ⟨⟨u,h⟩,hk⟩ d=>by subst u;exact Uv (d.ok.fs _ m) d.rm hk h.1 h.2))
 |.Name x _,e::es,[]=>bJ λi=>
  if i<100 then bS S.g.fs i λ⟨y,k,F⟩ m=>bC (mM S x y/\k<=S.k/\∀a∈e::es,bd a) (Ol F) (by rw[mo];exact(λ⟨⟨u,h⟩,hk,hn⟩ z a d=>by
   subst u;exact eN (d.ok.fs _ m) d.rm (a d) hk h.1 h.2 (aJ (hn e X9)) (mq λa m=>hn a (by simp[m])))) (pU r S (e::es))
  else if i=199 then cN True NY λz z=>Mb
  else if i<140 then bS QC (i - 100) λ⟨y,f,c⟩ z=>bC (eQ S x y/\∀a∈e::es,bd a) (Ol f) (by rw[mo];exact(λ⟨⟨⟨u,h⟩,k⟩,hn⟩ z a d=>by
   subst u;exact c r4 (d.ok.no _ k.1) (a d) h.1 k.2 h.2 (aJ (hn e X9)) (mq λa m=>hn a (by simp[m])))) (pU r S (e::es))
  else match e,es with
   |.Call (.Name y _) [e] [] _,[]=>bS QE (i - 140) λ⟨O,U,f,q⟩ z=>bC (eQ S x O/\eQ S y U/\bd e) (f1 f) (λ⟨⟨⟨u,h⟩,k⟩,⟨⟨v,g⟩,l⟩,n⟩ z a d=>by
    subst u v;exact q r4 (d.ok.no _ k.1) (d.ok.no _ l.1) (a d) h.1 g.1 (aJ n)) (r.E S e)
   |.Call (.Name y _) [a,b] [] _,[]=>bW (eQ S x "list"/\eQ S y "zip"/\bd a/\bd b) fLZ (λ⟨⟨⟨u,h⟩,k⟩,⟨⟨v,g⟩,l⟩,n,m⟩ z z a b d=>by
    subst u v;exact zO r4 (d.ok.no _ k.1) (d.ok.no _ l.1) (a d) (b d) h.1 g.1 (by rw[aJ n,aJ m];rfl) (aJ m) r4) (r.E S a) (r.E S b)
   |_,_=>λz=>none
 |.Name x _,[e],[⟨some ka,M,_⟩]=>bJ λi=>match i with
  |0=>bW (eQ S x "max"/\ka = "key"/\bd e) Ua (λ⟨⟨⟨u,h⟩,k⟩,v,n⟩ z z a b d=>by
   subst u v;exact NX mmx (d.ok.no _ k.1) (a d) (b d).1 d.rm h.1 (aJ n)) (r.E S e) (BF r S M)
  |1=>bW (eQ S x "min"/\ka = "key"/\bd e) Ub (λ⟨⟨⟨u,h⟩,k⟩,v,n⟩ z z a b d=>by
   subst u v;exact NX mmn (d.ok.no _ k.1) (a d) (b d).1 d.rm h.1 (aJ n)) (r.E S e) (BF r S M)
  |3=>bW (eQ S x "sorted"/\ka = "key"/\bd e) Qu (λ⟨⟨⟨u,h⟩,k⟩,v,n⟩ z z a b d=>by
   subst u v;exact NV (HV (gg d.rm)) (d.ok.no _ k.1) (a d) (b d).2 h.1 (aJ n)) (r.E S e) (BF r S M)
  |_=>bW (eQ S x "sorted"/\ka = "key"/\bd e) Qo (λ⟨⟨⟨u,h⟩,k⟩,v,n⟩ z z a b d=>by
   subst u v;exact NV Qn (d.ok.no _ k.1) (a d) (b d).2 h.1 (aJ n)) (r.E S e) (BF r S M)
 |.Attribute o n ap,[e],[]=>bJ λi=>match i,o,e with
  |9,o,.Tuple es _ _=>bW (n = "get"/\pR o/\ap.endLine == p.line) Oa (λ⟨u,a,l⟩ z z x y d=>by subst u;exact HN (NZ (gg d.rm)) (x d) (y d) ⟨eU a,r4,l,r4⟩) (r.E S o) (pU r S es)
  |i+10,.Subscript (.Name x _) b _,e=>bS S.g.ds i λ⟨y,c⟩ m=>bW (mM S x y/\n = "index"/\bd b/\bd e/\ap.endLine == p.line) (f2 (Hn c)) (λ⟨⟨u,h⟩,v,hb,he,hl⟩ z z a b d=>by
   subst u v;exact LL (d.ok.ds _ m) (a d) (b d) h.1 h.2 (lg hb) r4 (dX he) hl (aJ he)) (r.E S b) (r.E S e)
  |i,o,e=>bS QF i λ⟨j,f,q⟩ z=>bW (n=j/\pR o/\bd e/\ap.endLine == p.line) (Q7 f) (by rw[mn];exact(λ⟨u,a,b,l⟩ z z x y d=>by subst u;exact q (NZ (gg d.rm)) (x d) (y d) a b l)) (r.E S o) (r.E S e)
 |.Attribute o n ap,[],[]=>bC (n = "bit_length"/\pR o/\ap.endLine == p.line) (f1 NN) (λ⟨u,a,l⟩ z x d=>by subst u;exact Ls (x d) (eU a) l) (r.E S o)
 |_,_,_=>λz=>none
def QH:(e:Expr)->bi (sk S e)
 |.Name x _=>bJ λi=>
  if i<50 then cN (pQ S i x) (fW i) (by rw[Oi];exact(λh w=>ah i h.1 h.2.1 h.2.2.1 h.2.2.2))
  else if i<80 then bS S.g.cs (i - 50) λ⟨y,c⟩ m=>cN (mM S x y) (fC c) λ⟨u,h⟩ d=>by subst u;exact kJ (d.ok.cs _ m) h.1 h.2
  else bS QB (i - 80) λ⟨y,n,b⟩ w=>cN (eQ S x y) (fC (.ty n)) λ⟨⟨u,h⟩,k⟩ d=>by subst u;exact AN (d.ok.no _ k.1) b h.1 k.2 h.2
 |.Constant (.int _) ..=>cN True _ λw w=>aL
 |.Constant (.bool _) ..=>cN True _ λw w=>gc
 |.Constant .none ..=>cN True _ λw w=>jJ
 |.Constant (.str _) ..=>cN True _ λw w=>aC
 |.BoolOp _ [a] _=>mL (λw x d=>P8 (x d)) (r.E S a)
 |.BoolOp .And (a::b::t) p=>bW True Bz (by rw[xI];exact(λw w w x y d=>P7 (x d) (y d))) (r.E S a) (r.E S (.BoolOp .And (b::t) p))
 |.BoolOp .Or (a::b::t) p=>bW True Mp (by rw[B1];exact(λw w w x y d=>Tk (x d) (y d))) (r.E S a) (r.E S (.BoolOp .Or (b::t) p))
 |.UnaryOp .Not a _=>bC True P6 (λw w x d=>P9 (x d)) (r.E S a)
 |.UnaryOp .USub a _=>bC True (f1 T5) (λw w x d=>Tj T6 (x d)) (r.E S a)
 |.BinOp a op b _=>bJ λi=>bS QA i λ⟨M,f,q⟩ w=>bW (op=M) (Q7 f) (by rw[mn];exact(λh w w x y d=>by subst h;exact gd q (x d) (y d))) (r.E S a) (r.E S b)
 |.Compare a ops bs p=>bJ λi=>if i<20 then mL (λw h=>h.1) (IM r S i p a ops bs)else match ops,bs with
  |[.In],[b]=>bW (bd b) (f2 inK) (λh w w x y d=>Qw (NZ (gg d.rm)) (x d) (y d) (iN h)) (r.E S a) (r.E S b)
  |_,_=>λw=>none
 |.IfExp c a b _=>sr True RS (λw w w w x y z d=>NI (x d) (y d) (z d)) (r.T S c) (r.E S a) (r.E S b)
 |.Subscript a (.Slice lo hi none _) _=>sr True Ly (λw w w w x y z d=>kO (x d) (y d) (z d)) (r.E S a) (Oq r S lo) (Oq r S hi)
 |.Subscript a b _=>bJ λi=>match i,a with
  |0,a=>bW (bd b) (Q7 YM) (by rw[mn,pP];exact(λh w w x y d=>cj (x d) (y d) (lg h))) (r.E S a) (r.E S b)
  |1,a=>bW (bd b) (f2 ixK) (λh w w x y d=>Qp (NZ (gg d.rm)) (x d) (y d) (lg h)) (r.E S a) (r.E S b)
  |i+2,.Name x _=>bS S.g.ds i λ⟨y,c⟩ m=>bC (mM S x y/\bd b) (Xs (zx c)) (by rw[Aa];exact(λ⟨⟨u,h⟩,n⟩ w x d=>by subst u;exact nY (d.ok.ds _ m) (x d) h.1 h.2 (lg n))) (r.E S b)
  |_,_=>λw=>none
 |.Tuple es _ _=>bC True (Ol cG) (by rw[mo];exact(λw w x d=>fK (x d))) (pU r S es)
 |.List es _=>bC True (Ol jz) (by rw[mo];exact(λw w x d=>jK (x d))) (pU r S es)
 |.ListComp O [⟨tg,it,U,j⟩] sc p=>mL (λw h=>h.1) (IN r S O tg it U j sc p)
 |.JoinedStr [.FormattedValue a (.negSucc 0) none _,.Constant (.str c) _ _,.FormattedValue b (.negSucc 0) none _] _=>bW True (λf g=>fJ3 f c g) (λw w w x y d=>Q5 (x d) (y d)) (r.E S a) (r.E S b)
 |.Call f as ks p=>QG r S p f as ks
 |_=>λw=>none
def QI:(e:Expr)->bi (xT S e)
 |.UnaryOp .Not a _=>bC True B3 (by rw[xJ];exact(λz z x d=>iu (x d))) (r.T S a)
 |.BoolOp op es p=>mL (λz x d=>nB (x d)) (r.W S (.BoolOp op es p))
 |.Compare a ops bs p=>bJ λi=>if i<20 then bC True Ab (by rw[jl];exact(λz z h=>h.2)) (IM r S i p a ops bs)else match i,ops,bs with
  |20,[.NotIn],[b]=>bC True Ab (by rw[jl];exact(λz z x=>x)) (bW (J2:=λf=>xT S (.Compare a [.NotIn] [b] p) (c8 f)) (bd b) (f2 HA) (λh z z x y d=>ES (NZ (gg d.rm)) (x d) (y d) (iN h)) (r.E S a) (r.E S b))
  |i,[.NotIn],[.Name x q]=>bS S.g.ds (i - 30) λ⟨y,c⟩ m=>bC True Ab (by rw[jl];exact(λz z x=>x)) (bC (J1:=λf=>xT S (.Compare a [.NotIn] [.Name x q] p) (c8 f)) (mM S x y) (f1 (zy c)) (λ⟨u,h⟩ z x d=>by subst u;exact rQ (d.ok.ds _ m) (x d) h.1 h.2 r4) (r.E S a))
  |_,_,_=>λz=>none
 |e=>bC (Op e) Ab (by rw[jl];exact(λh z x d=>dc (x d) (II h))) (r.E S e)
def QJ:(e:Expr)->bi (Om S e)
 |.BoolOp .Or [a] _=>mL (λz x d=>gA (x d)) (r.T S a)
 |.BoolOp .Or (a::b::t) p=>bW True Mr (by rw[B5];exact(λz z z x y d=>kH (x d) (y d))) (r.T S a) (r.W S (.BoolOp .Or (b::t) p))
 |.BoolOp .And [a] _=>mL (λz x d=>nR (x d)) (r.T S a)
 |.BoolOp .And (a::b::t) p=>bW True B4 (by rw[xK];exact(λz z z x y d=>ug (x d) (y d))) (r.T S a) (r.W S (.BoolOp .And (b::t) p))
 |_=>λz=>none
end
def BG:Nat->Rj
 |0=>⟨λz z z=>none,λz z z=>none,λz z z=>none⟩
 |n+1=>⟨QH (BG n),QI (BG n),QJ (BG n)⟩
def Ov (S:Sq):(tg:Expr)->bi λM=>∀d:Yq S,∃t,PG (bH S d) tg t/\G9 d.K M t
 |.Name x _=>bJ λi=>cN (fE S i x) (Ux i) (by rw[Ac];exact(λh d=>⟨_,BE S d h,ir⟩))
 |.Tuple [.Name x _,.Name y _] _ _=>bJ λi=>bJ λj=>cN (fE S i x/\fE S j y) (TL [i,j]) λh d=>⟨_,Ou S d h.1 h.2,TM⟩
 |_=>λz=>none
section
variable (B:∀S b,bi (Oo S b)) (S:Sq)
abbrev dQ:Rj:=BG 24
def IT (p:Pos)(tg it:Expr)(b:List Stmt):bi (IH S (.For tg it b [] p)):=bJ λi=>match i,it with
 |0,it=>sr (bd it) B9 (by rw[xQ];exact(λh w w w x y z d=>let ⟨_,a,k⟩:=y d;Oc (x d) a k (z d) PassesOwn.never r4 λx=>lf h x)) (Ot dQ S tg it) (Ov S tg) (B S b)
 |_,.Call (.Name x _) [a] [] _=>sr (eQ S x "range"/\bd a) uL (by rw[sj];exact(λ⟨⟨⟨u,h⟩,k⟩,n⟩ w w w x y z d=>by
   subst u;obtain⟨t,a,l⟩:=y d;exact HY (x d h.1 (d.ok.no _ k.1) (aJ n)) a l (z d) PassesOwn.never r4 λx=>lf r4 x))
   (bC (J1:=λf=>∀d:Yq S,Gl (bH S d) "range"->d.mg "range" = none->starEach [a] (bH S d).env=[(false,eval a (bH S d).env)]->∀ {p q:Pos},PI (bH S d) tg (.Call (.Name "range" q) [a] [] p) (P1 d.K f)) True iA (λw w x d h m n w w=>kM m (x d) h n) (dQ.E S a)) (Ov S tg) (B S b)
 |_,_=>λw=>none
def IU:(st:Stmt)->bi (IH S st)
 |.Return (some e) _=>bJ λi=>match i,e with
  |0,e=>bC True B8 (by rw[xP];exact(λw w x d=>eJ (x d))) (dQ.E S e)
  |i+1,.Name x _=>cN (pQ S i x) (rz i) λh w=>Lj i h.1 h.2.1 h.2.2.1 h.2.2.2
  |_,_=>λw=>none
 |.If c a b _=>sr True Ms (by rw[B7];exact(λw w w w x y z d=>j0 (x d) (y d) (z d))) (dQ.T S c) (B S a) (B S b)
 |.Assign [.Name x q] (.ListComp M [⟨tg,it,O,U⟩] sc p) sp=>bJ λi=>if i<50 then bC (fE S i x/\S.sc.names.lookup x=some .local/\S.sc.kind=.function/\(q.line == p.line)/\(sc.names.any λ(n,k)=>n == x && (k == .local || k == .cell))=false) (xO i) (by rw[pO];exact(λh w y=>y.2 _ _ _ _ h.1 (λd=>by
   show pure ((if S.sc.kind.isAnnotationScope then ScopeKind.function else S.sc.kind) == ScopeKind.function && S.sc.names.lookup x == some NameKind.local && q.line == p.line && !(sc.names.any λ(n,k)=>n == x && (k == .local || k == .cell)))=_;rw[h.2.2.2.2,h.2.2.2.1,h.2.1,h.2.2.1];rfl) h.2.1)) (IN dQ S M tg it O U sc p)
  else λw=>none
 |.Assign [.Name x _] (.Dict [] [] _) _=>bJ λv=>bJ λi=>match v with
  |0=>cN (fE S i x) (HB i) λh d=>LY d.nd h.1 h.2.1 r4 h.2.2
  |1=>cN (fE S i x) (HC i) λh d=>LZ d.nd h.1 h.2.1 r4 h.2.2
  |_=>λw=>none
 |.Assign [.Name x _] e _=>bJ λv=>bJ λi=>match v with
  |0=>bC (fE S i x/\su e) (xO i) (by rw[pO];exact(λh w x d=>lT d.nd (x d) h.1.1 h.1.2.1 (iO h.2) h.1.2.2)) (dQ.E S e)
  |1=>bC (fE S i x/\su e) (G5 i) (λh w x d=>Lk d.nd (x d) h.1.1 h.1.2.1 (iO h.2) h.1.2.2) (dQ.E S e)
  |_=>λw=>none
 |.Assign [.Subscript (.Name y _) k _] e _=>bJ λv=>bJ λi=>match v,k with
  |1,k=>bW (pQ S i y/\su e) (Bm i) (λh w w x z d=>Ma (NZ (gg d.rm)) (z d) (x d) h.1.1 h.1.2.1 h.1.2.2.1 h.1.2.2.2 (iO h.2)) (dQ.E S k) (dQ.E S e)
  |2,k=>bW (pQ S i y/\su e) (uE i) (λh w w x z d=>Ic (NZ (gg d.rm)) (z d) (x d) h.1.1 h.1.2.1 h.1.2.2.1 h.1.2.2.2 (iO h.2)) (dQ.E S k) (dQ.E S e)
  |3,.Tuple es _ _=>bW (pQ S i y/\su e) (Bn i) (λh w w x z d=>Mc (NZ (gg d.rm)) (z d) (x d) h.1.1 h.1.2.1 h.1.2.2.1 h.1.2.2.2 (iO h.2)) (pU dQ S es) (dQ.E S e)
  |_,_=>λw=>none
 |.For tg it b [] p=>bJ λn=>match n with
  |0=>IT B S p tg it b
  |n=>BB n λu=>bC True (Y7 u) (λw w x d=>TQ u (x d)) (IT B S p tg it b)
 |.While c b [] _=>bJ λn h=>match dQ.T S c h with
  |none=>none
  |some (⟨f,o,p⟩,h)=>match B S b h with
   |none=>none
   |some (⟨g,o',j⟩,h)=>some (⟨eG f g n,o && o',λe d=>GH n PassesOwn.never (p (BC e) d) (j (BD e) d)⟩,h)
 |.Expr (.Call (.Attribute (.Name x _) m ap) [e] [] cp) _=>bJ λv=>bJ λi=>match v with
  |0=>bC (pQ S i x/\m = "append"/\bd e/\ap.endLine == cp.line) (yW i) (λ⟨h,u,n,l⟩ w x d=>by subst u;exact PJ (x d) h.1 h.2.1 h.2.2.1 h.2.2.2 r4 (dX n) l (aJ n) r4) (dQ.E S e)
  |1=>bC (pQ S i x/\m = "extend"/\bd e/\ap.endLine == cp.line) (Qd i) (λ⟨h,u,n,l⟩ w x d=>by subst u;exact Qe (x d) h.1 h.2.1 h.2.2.1 h.2.2.2 r4 (dX n) l (aJ n) r4) (dQ.E S e)
  |_=>λw=>none
 |.Raise ..=>cN True gJ λw w=>GX
 |.Continue _=>cN True NP λw w=>L6
 |_=>λw=>none
end
def sA:Nat->∀S b,bi (Oo S b)
 |0,_,_=>λz=>none
 |_+1,_,[]=>cN True b9 λz z=>fL
 |n+1,S,[st]=>mL (λz x d=>du (x d)) (IU (sA n) S st)
 |n+1,S,st::t::l=>bW True B6 (by rw[xN];exact(λz z z x y d=>uh (x d) (y d))) (IU (sA n) S st) (sA n S (t::l))
noncomputable def IV {α:Type}{J:α->Prop}:Option (Oj J×LN)->Option α
 |some (⟨f,_,_⟩,_)=>some f
 |none=>none
noncomputable def Af {α:Type}{J:α->Prop}:Option (Oj J×LN)->Bool
 |some (⟨_,o,_⟩,_)=>o
 |none=>false
theorem Mt {α:Type}{J:α->Prop}{g:α}:∀ {o:Option (Oj J×LN)},Af o=true->J ((IV o).getD g)
 |some (⟨_,_,p⟩,_),k=>p k
@[simp] noncomputable abbrev al (o:Option FS)(g:FS)(_:o=some g):FS:=g
structure Wq where
 G:Gq
 x:Str
 st:Stmt
 N:List Str
 k:Nat
 h:List Nat
noncomputable def nmS:Stmt->Str
 |.FunctionDef n _ _ _ _ _ _ _ _ _=>n
 |_=>""
def loS (st:Stmt):LS:=(aj st).names.filterMap λy=>match y.2 with
 |.local=>some y.1
 |.cell=>some y.1
 |_=>none
noncomputable def hx:Nat->Nat->LN
 |0,_=>[]
 |k+1,n=>if n<2 then []else match n % 16 with
  |13=>(n / 16 % 256+13)::hx k (n / 4096)
  |14=>1000::hx k (n / 16)
  |d=>d::hx k (n / 16)
def Wq.S (w:Wq):Sq:=⟨w.G,w.N,aj w.st,(aj w.st).names.filterMap λy=>if(aj w.st).names.lookup y.1=some .cell then some y.1 else none,w.k,true,if w.x∈w.G.ls then some w.x else none⟩
def Wq.r (w:Wq):Option FS:=IV (sA 40 w.S (aK w.st) w.h)
noncomputable def Wq.gt (w:Wq)(F:LD->OB):Gq:=⟨(w.x,w.k+1,F)::w.G.fs,w.G.cs,w.G.ds,w.G.no,w.G.ls⟩
section
variable {P:Program}{w:World}{K:Frag}{mg:SV}{base:Heap}
abbrev ao (w:World)(K:Frag)(mg:SV)(g:Gq):Prop:=∀ {P base},g.Ok P w K mg base
def Wq.js (W:Wq)(o:Af (sA 40 W.S (aK W.st) W.h))(M:W.G.Ok P w K mg base)
 (nd:W.N.Nodup) (O:bB W.k (A.deeper (envOfC W.x (aj W.st) s.z f bD))) (hc:W.x∈W.G.ls->∀c P,PySem.W.tabIn K W.x=some (c,P)->bD=.ref c):
  yY (bK oR P w K mg base W.N W.x (aj W.st) f bD A outer s H E).nox (aK W.st) (W.r.getD gJ):=by
 refine Mt o ⟨P,w,K,mg,base,_,s,H,envOfC W.x _ s.z f bD,outer,envOfC W.x _ s.z f bD::outer,[],O,λy hy=>?_,nd,M,λy e=>?_⟩
 .obtain⟨z,hz,e⟩:=mem_filterMap.mp hy;split at e
  .cases e;exact Option.isSome_iff_exists.mpr (oN ‹_›)
  .cases e
 .have e:(if W.x∈W.G.ls then some W.x else none)=some y:=e;split at e
  .cases e;exact⟨r4,hc ‹_›⟩
  .cases e
def Wq.o {O:LD->OB}(W:Wq)(F:nD K W.x W.st)(U:ao w K mg W.G)(n:Nat)
  (o:autoParam (Af (sA 40 W.S (aK W.st) W.h)) O9._auto_1)
  (S:FnScope W.N (W.N.take n) (aj W.st):=by refine⟨r4,r4,r4,?_,r4,?_,?_⟩<;>decide +kernel)
  (M:∀(kV doc pm:Value)(an:Option Addr)(bD ct:Value)(us:LU),us.length=(W.N.take n).length->bindArgs (fnOf W.x W.x (cf W.st) (aK W.st) (aj W.st) .none kV doc pm an bD ct) ⟨us,[]⟩=pure ((W.N.take n).zip us):=by
   exact λz z z z z z=>HW _ _ (by(repeat intro);rfl))
  (e:autoParam (am (W.r.getD gJ) (W.N.take n).length (W.N.length - (W.N.take n).length)=O) r9._auto_1):ao w K mg (W.gt O):=λ{P base}=>
 have q:=U
 ⟨q.hx,λt h=>by
  rcases vP h with h|h
  .subst h;exact F.fqL q.hx _ W.N n (λnd a z hc=>W.js o q nd a λz=>hc) S M (xS ▸ e)
  .exact q.fs _ h,q.cs,q.ds,q.no,q.ls⟩
end
end DL
set_option backward.eqns.nonrecursive true
namespace Lw
open PySem PySem.Spec PyProof.Rows L2 DL
def qV:D:=(.int 255)
noncomputable def dA:List (PySem.Str×D):=[(("known" : Str),(.tup [(.str "day")])),(("on" : Str),(.tup [(.str "day")])),(("text" : Str),(.tup [])),(("holder" : Str),(.tup [(.str "name")])),(("stands" : Str),(.tup [(.str "number")])),(("holds" : Str),(.tup [(.str "number"),(.str "name")])),(("faults" : Str),(.tup [(.str "number")])),(("standing" : Str),(.tup [])),(("leaning" : Str),(.tup [(.str "number")])),(("words" : Str),(.tup [(.str "number")])),(("history" : Str),(.tup [(.str "number")]))]
def gN:D:=(.int 9999)
def mu:D:=(.str "abcdefgh")
def pV:D:=(.int 4)
def pW:D:=(.int 9)
def pX:D:=(.int 8)
def qW:D:=(.int 20)
def qX:D:=(.int 8)
def iP:D:=(.int 60)
def Fi:D:=(.str ("-" : PySem.Str))
noncomputable def pY:D:=(.tup [(.str "day"),(.str "since"),(.str "further"),(.str "of")])
noncomputable def IW:D:=(.tup [(.str "paper"),(.str "like"),(.str "copy")])
noncomputable def Mu:List (PySem.Str×D):=[(("root" : Str),(.tup [(.str "office"),(.str "matters"),(.str "further"),(.str "rule")])),(("named" : Str),(.tup [(.str "day"),(.str "office"),(.str "person")])),(("chosen" : Str),(.tup [(.str "day"),(.str "by"),(.str "office"),(.str "person"),(.str "since")])),(("heir" : Str),(.tup [(.str "day"),(.str "by"),(.str "office"),(.str "person")])),(("death" : Str),(.tup [(.str "day"),(.str "person")])),(("lost" : Str),(.tup [(.str "day"),(.str "person")])),(("found" : Str),(.tup [(.str "day"),(.str "person")])),(("leave" : Str),(.tup [(.str "day"),(.str "by"),(.str "person"),(.str "matters"),(.str "stretch"),(.str "further")])),(("paper" : Str),(.tup [(.str "day"),(.str "by"),(.str "matters"),(.str "stretch"),(.str "whom"),(.str "pieces")])),(("like" : Str),(.tup [(.str "day"),(.str "by"),(.str "matters"),(.str "stretch"),(.str "whom"),(.str "of"),(.str "changes")])),(("copy" : Str),(.tup [(.str "day"),(.str "by"),(.str "of")])),(("call" : Str),(.tup [(.str "day"),(.str "by"),(.str "of")]))]
noncomputable def pZ:D:=(.tup [(.str "by"),(.str "person"),(.str "whom")])
noncomputable def Mv:D:=(.tup [(.str "open"),(.str "first"),(.str "last")])
noncomputable def Ag:D:=(.tup [(.str "chosen"),(.str "heir"),(.str "leave"),(.str "paper"),(.str "like"),(.str "copy"),(.str "call")])
noncomputable def jm (i:Nat):Stmt:=PySem.Challenge.pw_sealchain_k51_the_desk_refuses.main.body.getD i (.Pass ⟨0,0,0,0⟩)
abbrev br (G:Gq)(i k h:Nat):Wq:=⟨G,nmS (jm i),jm i,loS (jm i),k,hx 999 h⟩
noncomputable def uP:Gq:=⟨[],[("ALL_MATTERS",qV),("LAST_DAY",gN),("MATTER_LETTERS",mu),("MOST_FIGURES",pV),("MOST_FURTHER",pW),("MOST_LETTERS",pX),("MOST_PEOPLE",qW),("MOST_PIECES",qX),("MOST_ROWS",iP),("NOTHING",Fi),("NUMBER_PARTS",pY),("PAPERS",IW),("PERSON_PARTS",pZ),("RULES",Mv),("SEALINGS",Ag)],[("KINDS",dA),("PARTS",Mu)],["all","any","bool","dict","enumerate","int","isinstance","len","list","max","min","range","reversed","set","sorted","str","tuple","zip"],["in_order","has_seal","is_first_death","bases_by"]⟩
def Mw:=br (uP) 157 0 0x1223201111057d1120010020057d1110201000057d10
def bM:=am (al Mw.r _ r4) 2 1
def Mx:=br (Mw.gt bM) 158 1 0x1210157d0e00422510410002205043100023020202010
def dz:=am (al Mx.r _ r4) 1 5
def My:=br (Mx.gt dz) 159 0 0x10000000000000000000000000
def dB:=am (al My.r _ r4) 0 1
def Mz:=br (My.gt dB) 160 0 0x1000000000
def gO:=am (al Mz.r _ r4) 0 1
def M0:=br (Mz.gt gO) 162 1 0x1157d857d342800080157d70157d259d070157d23223258d00226259d05600032060157d5342157d058d50157d022457d324002014004300220
def jo:=am (al M0.r _ r4) 2 7
def M2:=br (M0.gt jo) 9 0 0x12013344d05ad43d05ad0
def gP:=am (al M2.r _ r4) 3 0
def M3:=br (M2.gt gP) 10 1 0x126d000
def xW:=am (al M3.r _ r4) 1 0
def M4:=br (M3.gt xW) 11 2 0x10000000000500000057d445d05ad
def lh:=am (al M4.r _ r4) 1 0
def M5:=br (M4.gt lh) 15 1 0x125d020
def li:=am (al M5.r _ r4) 1 0
def M6:=br (M5.gt li) 26 0 0x10330005bd002ad057d3346d05ad
def jp:=am (al M6.r _ r4) 1 0
def BH:=br (M6.gt jp) 28 0 0x132d0646d05ad0
def sC:=am (al BH.r _ r4) 1 0
def BI:=br (BH.gt sC) 27 1 0x1010
def qc:=am (al BI.r _ r4) 1 0
def BJ:=br (BI.gt qc) 29 2 0x1000005bd002cd057d3345d05ad
def mO:=am (al BJ.r _ r4) 1 0
def BK:=br (BJ.gt mO) 30 2 0x10012cd500700057d445d05ad
def mP:=am (al BK.r _ r4) 1 0
def BL:=br (BK.gt mP) 31 3 0x110011405bd00000010000005bd45d05ad
def lm:=am (al BL.r _ r4) 1 1
def BM:=br (BL.gt lm) 32 4 0x1100120022dd5190021400229d19002170021600215150021500202021800202
def sD:=am (al BM.r _ r4) 2 0
def BN:=br (BM.gt sD) 33 5 0x11000003405bd0000357d0057d40012d046d005ad057d245d05ad
def sE:=am (al BN.r _ r4) 1 0
def BO:=br (BN.gt sE) 36 0 0x10000
def sG:=am (al BO.r _ r4) 1 0
def BP:=br (BO.gt sG) 37 1 0x1100b00000
def sK:=am (al BP.r _ r4) 2 0
def BQ:=br (BP.gt sK) 38 2 0x10000012
def xX:=am (al BQ.r _ r4) 1 0
def BR:=br (BQ.gt xX) 34 3 0x100130010100220150010
def mQ:=am (al BR.r _ r4) 1 1
def BS:=br (BR.gt mQ) 35 6 0x1000040001d00057d445d05ad
def xY:=am (al BS.r _ r4) 1 0
def BU:=br (BS.gt xY) 43 2 0x1030420000
def iQ:=am (al BU.r _ r4) 1 0
def BV:=br (BU.gt iQ) 44 3 0x1001461520
def gs:=am (al BV.r _ r4) 2 0
def BW:=br (BV.gt gs) 39 1 0x10006389d0
def qd:=am (al BW.r _ r4) 1 0
def BX:=br (BW.gt qd) 40 2 0x117fd011731d0600001
def mR:=am (al BX.r _ r4) 1 1
def BY:=br (BX.gt mR) 45 3 0x1180d020112000010
def iR:=am (al BY.r _ r4) 1 2
def BZ:=br (BY.gt iR) 46 7 0x12bd100011001030010052dd18
def aM:=am (al BZ.r _ r4) 2 0
def Ca:=br (BZ.gt aM) 47 8 0x122102157d1005dd1045d47d05cd
def aT:=am (al Ca.r _ r4) 1 2
def Cb:=br (Ca.gt aT) 127 0 0x100402000330005bd28d057d33
def lq:=am (al Cb.r _ r4) 1 0
def Cc:=br (Cb.gt lq) 128 1 0x105ed000
def fF:=am (al Cc.r _ r4) 1 0
def Cd:=br (Cc.gt fF) 17 0 0x100176202010
def xZ:=am (al Cd.r _ r4) 1 0
def Ce:=br (Cd.gt xZ) 129 1 0x1027d0000000
def lr:=am (al Ce.r _ r4) 1 0
def Cf:=br (Ce.gt lr) 130 2 0x11010202918100393227d90010
def lu:=am (al Cf.r _ r4) 1 3
def Cg:=br (Cf.gt lu) 131 2 0x1032ed020
def sP:=am (al Cg.r _ r4) 1 0
def Ch:=br (Cg.gt sP) 133 3 0x1100bad00215dd002102ed10200210010400210100210402fd06
def qe:=am (al Ch.r _ r4) 2 0
def Ci:=br (Ch.gt qe) 134 0 0x10157d00202002
def j8:=am (al Ci.r _ r4) 2 0
def Cj:=br (Ci.gt j8) 135 4 0x115dd257d2042204231100257d41230403003000020010
def sQ:=am (al Cj.r _ r4) 1 4
def Ck:=br (Cj.gt sQ) 136 7 0x12203d0101072001012d157d00110
def dh:=am (al Ck.r _ r4) 1 2
def Co:=br (Ck.gt dh) 137 9 0x12a02a00100201041046d05ad
def d4:=am (al Co.r _ r4) 1 2
def Cp:=br (Co.gt d4) 143 2 0x132dd526d02215d19202111d02
def o5:=am (al Cp.r _ r4) 2 1
def Cs:=br (Cp.gt o5) 144 3 0x110011024010010257d0157d41011d0110
def lw:=am (al Cs.r _ r4) 1 1
def Cu:=br (Cs.gt lw) 49 0 0x1120003057d2030
def qg:=am (al Cu.r _ r4) 3 0
def Cv:=br (Cu.gt qg) 79 1 0x130d2000cd621000
def qh:=am (al Cv.r _ r4) 3 0
def Cy:=br (Cv.gt qh) 80 1 0x12000dd221010
def qi:=am (al Cy.r _ r4) 3 0
def Cz:=br (Cy.gt qi) 81 2 0x1210121000
def eV:=am (al Cz.r _ r4) 3 0
def C1:=br (Cz.gt eV) 145 3 0x120100202057d2082026
def bj:=am (al C1.r _ r4) 3 0
def C2:=br (C1.gt bj) 48 0 0x10210303110
def C3:=am (al C2.r _ r4) 2 0
def C4:=br (C2.gt C3) 53 2 0x10010d011d22005fd00101000012
def C5:=am (al C4.r _ r4) 2 1
def C6:=br (C4.gt C5) 12 0 0x1100010501030
def sR:=am (al C6.r _ r4) 2 0
def C7:=br (C6.gt sR) 62 1 0x10000100
def qj:=am (al C7.r _ r4) 2 0
def C8:=br (C7.gt qj) 63 0 0x100000
def qk:=am (al C8.r _ r4) 1 0
def C9:=br (C8.gt qk) 65 4 0x1001000000012
def qm:=am (al C9.r _ r4) 2 0
def CA:=br (C9.gt qm) 66 5 0x160501010023051160115d305040115d2457d10457d2003007fd400102215d002001223
def mT:=am (al CA.r _ r4) 3 4
def CB:=br (CA.gt mT) 50 3 0x1110015d0
def IY:=am (al CB.r _ r4) 2 0
def CC:=br (CB.gt IY) 52 7 0x101001220001016d71070012
def qo:=am (al CC.r _ r4) 2 1
def CD:=br (CC.gt qo) 64 0 0x10000000
def mU:=am (al CD.r _ r4) 1 0
def CF:=br (CD.gt mU) 56 3 0x13018d32019d2101ad60
def CG:=am (al CF.r _ r4) 4 0
def CH:=br (CF.gt CG) 57 4 0x10321040010a0043240
def sU:=am (al CH.r _ r4) 5 0
def CJ:=br (CH.gt sU) 58 5 0x13210057d20
def CK:=am (al CJ.r _ r4) 4 0
def CM:=br (CJ.gt CK) 59 7 0x10150140001dd200457d23210140
def qp:=am (al CM.r _ r4) 4 1
def CN:=br (CM.gt qp) 60 8 0x1431004310102001cd402001dd30033d2001edb21005d
def qr:=am (al CN.r _ r4) 3 2
def CO:=br (CN.gt qr) 67 6 0x12310820
def lx:=am (al CO.r _ r4) 4 0
def CP:=br (CO.gt lx) 68 7 0x1201801412031ed31fd1044020030
def gu:=am (al CP.r _ r4) 3 2
def CQ:=br (CP.gt gu) 69 9 0x141fd420d521310200421d2055420d1002d2500421db31000421d230040
def ye:=am (al CQ.r _ r4) 4 2
def CS:=br (CQ.gt ye) 70 2 0x121021d021d0
def mV:=am (al CS.r _ r4) 3 0
def CT:=br (CS.gt mV) 71 2 0x155035025040350054035013502d2504150b5000040
def CU:=am (al CT.r _ r4) 4 2
def CV:=br (CT.gt CU) 72 3 0x123114003123d123d0040123d30
def iS:=am (al CV.r _ r4) 3 2
def CW:=br (CV.gt iS) 73 6 0x1846987069108975839908002004d1002206527fd006527040023d6040024d50
def mW:=am (al CW.r _ r4) 5 5
def CY:=br (CW.gt mW) 74 7 0x143210060040024d40025d52260002005
def j9:=am (al CY.r _ r4) 5 2
def CZ:=br (CY.gt j9) 75 10 0x100d22043210020526d526d526d33527d2452220527d24525d542020527d2421054005041001d0003120
def yf:=am (al CZ.r _ r4) 2 4
def Db:=br (CZ.gt yf) 76 11 0x13410004d004521009d240
def yg:=am (al Db.r _ r4) 4 1
def Dc:=br (Db.gt yg) 16 0 0x1110620
def yh:=am (al Dc.r _ r4) 2 0
def De:=br (Dc.gt yh) 86 2 0x100129d029d802ad20029d129d0
def nc:=am (al De.r _ r4) 2 0
def Df:=br (De.gt nc) 87 7 0x121000129d12ad20b
def ly:=am (al Df.r _ r4) 3 0
def Dg:=br (Df.gt ly) 90 8 0x122ad0108d002bd504220002105100dd5422530040
def iT:=am (al Dg.r _ r4) 4 2
def Dh:=br (Dg.gt iT) 14 0 0x1103070015
def jA:=am (al Dh.r _ r4) 2 0
def Di:=br (Dh.gt jA) 13 1 0x110000001030
def ng:=am (al Di.r _ r4) 2 0
def Dj:=br (Di.gt ng) 51 4 0x1200ad100adc0
def qt:=am (al Dj.r _ r4) 3 0
def Dl:=br (Dj.gt qt) 88 5 0x12003500432fd1432ed10d012002002fd4010030
def nj:=am (al Dl.r _ r4) 3 2
def Dm:=br (Dl.gt nj) 89 2 0x10102030d2300220002116d1013d01023
def nn:=am (al Dm.r _ r4) 3 1
def Dp:=br (Dm.gt nn) 91 6 0x100211530202020031d10030
def jB:=am (al Dp.r _ r4) 3 1
def Dq:=br (Dp.gt jB) 92 5 0x1030230331019d20032d30
def l5:=am (al Dq.r _ r4) 3 1
def Dr:=br (Dq.gt l5) 93 9 0x100004303101321070403100030034d2031018d
def qu:=am (al Dr.r _ r4) 4 1
def Ds:=br (Dr.gt qu) 82 7 0x143033d20108d703062460d00134d034db1016d55170535d20534d6230034d6040050
def qw:=am (al Ds.r _ r4) 5 3
def Dt:=br (Ds.gt qw) 83 9 0x14321003100ad005634d14635d4636d430060
def qx:=am (al Dt.r _ r4) 6 1
def Du:=br (Dt.gt qx) 84 10 0x1054032101019d0432105003101bd
def qy:=am (al Du.r _ r4) 5 0
def Dv:=br (Du.gt qy) 95 11 0x143210057d200430036d13100cd
def yi:=am (al Dv.r _ r4) 5 0
def Dw:=br (Dv.gt yi) 96 12 0x15531045422531005101dd51013d000401004d31
def Dx:=am (al Dw.r _ r4) 3 3
def Dy:=br (Dw.gt Dx) 97 0 0x110007d0020
def Dz:=am (al Dy.r _ r4) 2 0
def D0:=br (Dy.gt Dz) 98 1 0x12211100301160d32060010
def D2:=am (al D0.r _ r4) 1 3
def D3:=br (D0.gt D2) 99 13 0x12102061d0
def qz:=am (al D3.r _ r4) 3 0
def D4:=br (D3.gt qz) 100 1 0x10102001100
def iU:=am (al D4.r _ r4) 2 0
def D5:=br (D4.gt iU) 101 13 0x1681d07060570410707060704e534107036005307d4250210440
def D6:=am (al D5.r _ r4) 4 4
def D7:=br (D5.gt D6) 138 2 0x1158d010100002058d2ed0520001102200202162d002130d002
def q0:=am (al D7.r _ r4) 2 1
def D8:=br (D7.gt q0) 139 3 0x11003201132039d000040d0058d10
def jq:=am (al D8.r _ r4) 1 3
def D9:=br (D8.gt jq) 140 4 0x10000000
def l7:=am (al D9.r _ r4) 1 0
def DA:=br (D9.gt l7) 147 0 0x100
def np:=am (al DA.r _ r4) 1 0
def DB:=br (DA.gt np) 146 0 0x1058d00000
def yj:=am (al DB.r _ r4) 1 0
def DC:=br (DB.gt yj) 148 1 0x100057d10
def iV:=am (al DC.r _ r4) 1 0
def uQ:=br (DC.gt iV) 149 1 0x101000010002
def jC:=am (al uQ.r _ r4) 1 0
def uT:=br (uQ.gt jC) 150 1 0x1002050
def l8:=am (al uT.r _ r4) 1 0
def uX:=br (uT.gt l8) 151 1 0x1030000057d10
def jD:=am (al uX.r _ r4) 1 0
def ve:=br (uX.gt jD) 152 1 0x10400062d00040002002
def lA:=am (al ve.r _ r4) 1 0
def vf:=br (ve.gt lA) 153 1 0x116050000057d10
def iW:=am (al vf.r _ r4) 1 0
def vg:=br (vf.gt iW) 154 14 0x1bad00bad10302bad5030221000d50302bad20302bad7030230210b303022301014d40302080302
def bX:=am (al vg.r _ r4) 4 0
noncomputable def dl:List (Str×Nat):=("_law_cell",157)::("_law_lines",158)::("_law_word_rows",159)::("_law_add_rows",160)::("_law_due",162)::("is_whole",9)::("is_day",10)::("is_stretch",11)::("is_matters",15)::("is_name",26)::("is_rule",28)::("is_piece",27)::("is_pieces",29)::("is_change",30)::("is_changes",31)::("is_part",32)::("is_deed",33)::("word_of",36)::("part_of",37)::("day_of",38)::("is_timely",34)::("is_row",35)::("root_offices",43)::("is_second_root",44)::("parts_in",39)::("people_in",40)::("count_people",45)::("is_refused",46)::("register_of",47)::("is_figures",127)::("number_of",128)::("listed",17)::("letters_of",129)::("matters_of",130)::("stop_of",131)::("value_of",133)::("count_words",134)::("deed_of",135)::("row_of",136)::("read",137)::("meant",143)::("asked",144)::("is_known",49)::("is_paper",79)::("is_leave",80)::("is_borne",81)::("check_number",145)::("heard",48)::("roots",53)::("lies_in",12)::("is_alive",62)::("by_since",63)::("chief_of",65)::("holder_by",66)::("rank",50)::("in_order",52)::("by_office",64)::("tells",56)::("told_of",57)::("lives",58)::("has_seal",59)::("is_sound",60)::("is_held_by",67)::("is_first_death",68)::("counts",69)::("new_claim",70)::("ended",71)::("after_choice",72)::("inherited",73)::("after_death",74)::("claims",75)::("holder",76)::("covers",16)::("reach_bar",86)::("office_bar",87)::("office_bases",90)::("ends_within",14)::("is_within",13)::("is_ahead",51)::("leave_bar",88)::("leaves_to",89)::("leave_bases",91)::("copy_bases",92)::("bases_by",93)::("may_call",82)::("calls_in",83)::("calls_by",84)::("is_fit",95)::("links",96)::("bears",97)::("stood",98)::("standing",99)::("first_bearer",100)::("chain",101)::("words_of",138)::("line_of",139)::("shown",140)::("yes_or_no",147)::("joined",146)::("numbers_told",148)::("holder_told",149)::("chain_told",150)::("faults_told",151)::("words_told",152)::("history_told",153)::("answer",154)::("law",163)::[]
structure Tx (w:World)(K:Frag)(mg:Str->Option Value):Prop where
 hX:∃h,K.In h/\h.Ns mainGlobals mg
 d:∀p∈dl,nD K p.1 (jm p.2)
 cs:∀p∈uP.cs,KC K mg p.1 p.2
 ds:∀p∈uP.ds,KD w K mg p.1 p.2
 no:∀x∈uP.no,mg x=none
 ls:∀x∈uP.ls,xu K x
section
variable {w:World}{K:Frag}{mg:SV}
def tqdC(h:nD K a (jm i))(t:∀p∈l,nD K p.1 (jm p.2)):∀p∈(a,i)::l,nD K p.1 (jm p.2):=forall_mem_cons.mpr ⟨h,t⟩
def tqcC(h:KC K mg a i)(t:∀p∈l,KC K mg p.1 p.2):∀p∈(a,i)::l,KC K mg p.1 p.2:=forall_mem_cons.mpr ⟨h,t⟩
def tqkC(h:KD w K mg a i):∀p∈[(a,i)],KD w K mg p.1 p.2:=forall_mem_cons.mpr ⟨h,nofun⟩
def tqnC(h:mg a=none)(t:∀p∈l,mg p=none):∀p∈a::l,mg p=none:=forall_mem_cons.mpr ⟨h,t⟩
def tqlC(h:xu K a)(t:∀p∈l,xu K p):∀p∈a::l,xu K p:=forall_mem_cons.mpr ⟨h,t⟩
variable (T:Tx w K mg)
include T
theorem Tx.a i(h:autoParam (i<dl.length) Z9._auto_1):nD K (dl.getD i ("",0)).1 (jm (dl.getD i ("",0)).2):=T.d _ (by rw[getD_eq_getElem?_getD,vU h];exact List.getElem_mem h)
theorem YN:ao w K mg uP:=⟨T.hX,nofun,T.cs,T.ds,T.no,T.ls⟩
theorem YO:ao w K mg (Mw.gt bM):=Mw.o (T.a 0) (YN T) 2
theorem YQ:ao w K mg (Mx.gt dz):=Mx.o (T.a 1) (YO T) 1
theorem YR:ao w K mg (My.gt dB):=My.o (T.a 2) (YQ T) 0
theorem YS:ao w K mg (Mz.gt gO):=Mz.o (T.a 3) (YR T) 0
theorem YT:ao w K mg (M0.gt jo):=M0.o (T.a 4) (YS T) 2
theorem YU:ao w K mg (M2.gt gP):=M2.o (T.a 5) (YT T) 3
theorem YV:ao w K mg (M3.gt xW):=M3.o (T.a 6) (YU T) 1
theorem YW:ao w K mg (M4.gt lh):=M4.o (T.a 7) (YV T) 1
theorem YX:ao w K mg (M5.gt li):=M5.o (T.a 8) (YW T) 1
theorem YY:ao w K mg (M6.gt jp):=M6.o (T.a 9) (YX T) 1
theorem U2:ao w K mg (BH.gt sC):=BH.o (T.a 10) (YY T) 1
theorem U3:ao w K mg (BI.gt qc):=BI.o (T.a 11) (U2 T) 1
theorem U4:ao w K mg (BJ.gt mO):=BJ.o (T.a 12) (U3 T) 1
theorem U5:ao w K mg (BK.gt mP):=BK.o (T.a 13) (U4 T) 1
theorem U6:ao w K mg (BL.gt lm):=BL.o (T.a 14) (U5 T) 1
theorem U7:ao w K mg (BM.gt sD):=BM.o (T.a 15) (U6 T) 2
theorem U8:ao w K mg (BN.gt sE):=BN.o (T.a 16) (U7 T) 1
theorem U9:ao w K mg (BO.gt sG):=BO.o (T.a 17) (U8 T) 1
theorem UA:ao w K mg (BP.gt sK):=BP.o (T.a 18) (U9 T) 2
theorem UB:ao w K mg (BQ.gt xX):=BQ.o (T.a 19) (UA T) 1
theorem UC:ao w K mg (BR.gt mQ):=BR.o (T.a 20) (UB T) 1
theorem UD:ao w K mg (BS.gt xY):=BS.o (T.a 21) (UC T) 1
theorem UE:ao w K mg (BU.gt iQ):=BU.o (T.a 22) (UD T) 1
theorem UF:ao w K mg (BV.gt gs):=BV.o (T.a 23) (UE T) 2
theorem UG:ao w K mg (BW.gt qd):=BW.o (T.a 24) (UF T) 1
theorem UH:ao w K mg (BX.gt mR):=BX.o (T.a 25) (UG T) 1
theorem UI:ao w K mg (BY.gt iR):=BY.o (T.a 26) (UH T) 1
theorem UJ:ao w K mg (BZ.gt aM):=BZ.o (T.a 27) (UI T) 2
theorem UK:ao w K mg (Ca.gt aT):=Ca.o (T.a 28) (UJ T) 1
theorem UL:ao w K mg (Cb.gt lq):=Cb.o (T.a 29) (UK T) 1
theorem UM:ao w K mg (Cc.gt fF):=Cc.o (T.a 30) (UL T) 1
theorem UN:ao w K mg (Cd.gt xZ):=Cd.o (T.a 31) (UM T) 1
theorem UO:ao w K mg (Ce.gt lr):=Ce.o (T.a 32) (UN T) 1
theorem UP:ao w K mg (Cf.gt lu):=Cf.o (T.a 33) (UO T) 1
theorem UQ:ao w K mg (Cg.gt sP):=Cg.o (T.a 34) (UP T) 1
theorem UR:ao w K mg (Ch.gt qe):=Ch.o (T.a 35) (UQ T) 2
theorem US:ao w K mg (Ci.gt j8):=Ci.o (T.a 36) (UR T) 2
theorem UT:ao w K mg (Cj.gt sQ):=Cj.o (T.a 37) (US T) 1
theorem UU:ao w K mg (Ck.gt dh):=Ck.o (T.a 38) (UT T) 1
theorem UV:ao w K mg (Co.gt d4):=Co.o (T.a 39) (UU T) 1
theorem UW:ao w K mg (Cp.gt o5):=Cp.o (T.a 40) (UV T) 2
theorem UX:ao w K mg (Cs.gt lw):=Cs.o (T.a 41) (UW T) 1
theorem UY:ao w K mg (Cu.gt qg):=Cu.o (T.a 42) (UX T) 3
theorem UZ:ao w K mg (Cv.gt qh):=Cv.o (T.a 43) (UY T) 3
theorem Va:ao w K mg (Cy.gt qi):=Cy.o (T.a 44) (UZ T) 3
theorem Vb:ao w K mg (Cz.gt eV):=Cz.o (T.a 45) (Va T) 3
theorem Vc:ao w K mg (C1.gt bj):=C1.o (T.a 46) (Vb T) 3
theorem Vd:ao w K mg (C2.gt C3):=C2.o (T.a 47) (Vc T) 2
theorem Ve:ao w K mg (C4.gt C5):=C4.o (T.a 48) (Vd T) 2
theorem Vf:ao w K mg (C6.gt sR):=C6.o (T.a 49) (Ve T) 2
theorem Vg:ao w K mg (C7.gt qj):=C7.o (T.a 50) (Vf T) 2
theorem Vh:ao w K mg (C8.gt qk):=C8.o (T.a 51) (Vg T) 1
theorem Vi:ao w K mg (C9.gt qm):=C9.o (T.a 52) (Vh T) 2
theorem Vj:ao w K mg (CA.gt mT):=CA.o (T.a 53) (Vi T) 3
theorem Vk:ao w K mg (CB.gt IY):=CB.o (T.a 54) (Vj T) 2
theorem Vl:ao w K mg (CC.gt qo):=CC.o (T.a 55) (Vk T) 2
theorem Vm:ao w K mg (CD.gt mU):=CD.o (T.a 56) (Vl T) 1
theorem Vn:ao w K mg (CF.gt CG):=CF.o (T.a 57) (Vm T) 4
theorem Vo:ao w K mg (CH.gt sU):=CH.o (T.a 58) (Vn T) 5
theorem Vp:ao w K mg (CJ.gt CK):=CJ.o (T.a 59) (Vo T) 4
theorem Vq:ao w K mg (CM.gt qp):=CM.o (T.a 60) (Vp T) 4
theorem Vr:ao w K mg (CN.gt qr):=CN.o (T.a 61) (Vq T) 3
theorem Vs:ao w K mg (CO.gt lx):=CO.o (T.a 62) (Vr T) 4
theorem Vt:ao w K mg (CP.gt gu):=CP.o (T.a 63) (Vs T) 3
theorem Vu:ao w K mg (CQ.gt ye):=CQ.o (T.a 64) (Vt T) 4
theorem Vv:ao w K mg (CS.gt mV):=CS.o (T.a 65) (Vu T) 3
theorem Vw:ao w K mg (CT.gt CU):=CT.o (T.a 66) (Vv T) 4
theorem Vx:ao w K mg (CV.gt iS):=CV.o (T.a 67) (Vw T) 3
theorem Vy:ao w K mg (CW.gt mW):=CW.o (T.a 68) (Vx T) 5
theorem Vz:ao w K mg (CY.gt j9):=CY.o (T.a 69) (Vy T) 5
theorem V0:ao w K mg (CZ.gt yf):=CZ.o (T.a 70) (Vz T) 2
theorem V1:ao w K mg (Db.gt yg):=Db.o (T.a 71) (V0 T) 4
theorem V2:ao w K mg (Dc.gt yh):=Dc.o (T.a 72) (V1 T) 2
theorem V3:ao w K mg (De.gt nc):=De.o (T.a 73) (V2 T) 2
theorem V4:ao w K mg (Df.gt ly):=Df.o (T.a 74) (V3 T) 3
theorem V5:ao w K mg (Dg.gt iT):=Dg.o (T.a 75) (V4 T) 4
theorem V6:ao w K mg (Dh.gt jA):=Dh.o (T.a 76) (V5 T) 2
theorem V7:ao w K mg (Di.gt ng):=Di.o (T.a 77) (V6 T) 2
theorem V8:ao w K mg (Dj.gt qt):=Dj.o (T.a 78) (V7 T) 3
theorem V9:ao w K mg (Dl.gt nj):=Dl.o (T.a 79) (V8 T) 3
theorem VA:ao w K mg (Dm.gt nn):=Dm.o (T.a 80) (V9 T) 3
theorem VB:ao w K mg (Dp.gt jB):=Dp.o (T.a 81) (VA T) 3
theorem VC:ao w K mg (Dq.gt l5):=Dq.o (T.a 82) (VB T) 3
theorem VD:ao w K mg (Dr.gt qu):=Dr.o (T.a 83) (VC T) 4
theorem VE:ao w K mg (Ds.gt qw):=Ds.o (T.a 84) (VD T) 5
theorem VF:ao w K mg (Dt.gt qx):=Dt.o (T.a 85) (VE T) 6
theorem VG:ao w K mg (Du.gt qy):=Du.o (T.a 86) (VF T) 5
theorem VH:ao w K mg (Dv.gt yi):=Dv.o (T.a 87) (VG T) 5
theorem VI:ao w K mg (Dw.gt Dx):=Dw.o (T.a 88) (VH T) 3
theorem VJ:ao w K mg (Dy.gt Dz):=Dy.o (T.a 89) (VI T) 2
theorem VL:ao w K mg (D0.gt D2):=D0.o (T.a 90) (VJ T) 1
theorem VM:ao w K mg (D3.gt qz):=D3.o (T.a 91) (VL T) 3
theorem VN:ao w K mg (D4.gt iU):=D4.o (T.a 92) (VM T) 2
theorem VO:ao w K mg (D5.gt D6):=D5.o (T.a 93) (VN T) 4
theorem VP:ao w K mg (D7.gt q0):=D7.o (T.a 94) (VO T) 2
theorem VQ:ao w K mg (D8.gt jq):=D8.o (T.a 95) (VP T) 1
theorem VR:ao w K mg (D9.gt l7):=D9.o (T.a 96) (VQ T) 1
theorem VS:ao w K mg (DA.gt np):=DA.o (T.a 97) (VR T) 1
theorem VT:ao w K mg (DB.gt yj):=DB.o (T.a 98) (VS T) 1
theorem VU:ao w K mg (DC.gt iV):=DC.o (T.a 99) (VT T) 1
theorem QK:ao w K mg (uQ.gt jC):=uQ.o (T.a 100) (VU T) 1
theorem QL:ao w K mg (uT.gt l8):=uT.o (T.a 101) (QK T) 1
theorem QM:ao w K mg (uX.gt jD):=uX.o (T.a 102) (QL T) 1
theorem QN:ao w K mg (ve.gt lA):=ve.o (T.a 103) (QM T) 1
theorem QO:ao w K mg (vf.gt iW):=vf.o (T.a 104) (QN T) 1
theorem QP:ao w K mg (vg.gt bX):=vg.o (T.a 105) (QO T) 4
end
end Lw
namespace EX
open PySem PySem.W
open Sem (wp)
abbrev Ah:LU:=[.type "ValueError",.type "Exception",.type "BaseException",.type "object"]
section
variable {prog:Program}{w:World}{A:Around}{E:QV}{h:Heap}{g:Array GenState}{d:Drawn}{t:Nat}{os:OsState}
variable {nm q:Str}{C N:Addr}{bs bm Xf:LU}{hdct:Bool}{sn:LS}{sub:LU}{ab:Bool}{col:Option Bool}{dd:Option Addr}{k0 k1 k2 k3 k5:Option Value}{B newId A7:String}
def Fj {K:Frag}(X:K.In h)(F:ExcBaseFacts B newId A7 Xf)(O:OwnTail h Xf bm){bu:LU}{fI:Addr}{oI:Obj}{Q:Fin->Shared->Prop}
  (a:h.get? C=some (excClassObj nm q C N bs bm hdct sn sub ab col dd k0 k1 k2 k3 k5 newId)) (hi:findIn K (.ref C) "__init__" = some (some (.ref fI)))
  (c:h.get? fI=some oI) (f:oI.cls=.type "function")
  (hq:∀h' e,Heap.MadeExcOf h h' e (.ref C) bu->h.objs.size<=e ->
   wpAny (model prog w) A (call (.ref fI) (.ref e::bu)) (λr s'=>r=.none/\Q (.done (.ret (.ref e))) s') E ⟨h',g,d,t,os⟩) (hrest:autoParam (bu.length<=sizeLine) Z8._auto_1):
  wpAny (model prog w) A (Builtin.«type.__call__» ⟨.ref C::bu,[]⟩) Q E ⟨h,g,d,t,os⟩:=by
 repeat (first|with_reducible refine wpAny_loadPart_at a ?_|with_reducible refine wpAny_madeBy_exc a ?_|wp_step)
 refine codeAny_call_builtin_code (Code.quiet_builtin _ F.quiet) (wpAny_check_new_subT F O a ?_);refine codeAny_exc_new_subT F O a ?_ hrest;show wpAny _ _ _ _ _ _;have kp:∀b o,h.get? b=some o->((h.push { cls:=.type "tuple",data:=.seq bu.toArray }).push { cls:=.ref C,data:=.fields #[.ref h.objs.size,.none,.none,.none,.bool false,.none] }).get? b=some o:=
  λb o e=>vZ _ (vZ _ e)
 have j:=kp _ _ a;have M:=kp _ _ c;have U:((h.push { cls:=.type "tuple",data:=.seq bu.toArray }).push
   { cls:=.ref C,data:=.fields #[.ref h.objs.size,.none,.none,.none,.bool false,.none] }).get? (h.objs.size+1)=some
   { cls:=.ref C,data:=.fields #[.ref h.objs.size,.none,.none,.none,.bool false,.none] }:=by heap_get
 have i:(Value.ref C::bm).contains (.ref C)=true:=X9
 unfold isInstance;repeat (first|with_reducible refine wpAny_loadPart_at U ?_|(with_reducible refine wpAny_isSubtype_exc j ?_;rw[i])|wp_step)
 show wpAny _ _ (typeLookup (.ref C) _) _ _ _;refine looks_findIn X hi _ _ _ _ kp ?_;refine wpAny_holding (wX ?_);unfold bindSpecial;refine wX (wpAny_typeOf (T:="function") ⟨_,M,f⟩ ?_);rw[if_pos Z9];refine wY (wX (wpAny_mono (hq _ (h.objs.size+1) ⟨kp,Heap.get?_none_of_le (le_succ _),h.objs.size,U,Heap.get?_none_of_le (vT _),?_⟩ ?_) (λr s' k=>?_) λz z x=>x))
 .exact vZ _ (Heap.get?_push_at r4 r4)
 .exact le_succ _
 .obtain⟨rfl,l⟩:=k;wp_walk;exact l
def IZ {K:Frag}(X:K.In h)(F:ExcBaseFacts B newId A7 Xf)(O:OwnTail h Xf bm){bu:LU}{fI:Addr}{oI:Obj}{Q:QV}
  (M:h.get? C=some (excClassObj nm q C N bs bm hdct sn sub ab col dd k0 k1 k2 k3 k5 newId)) (hi:findIn K (.ref C) "__init__" = some (some (.ref fI)))
  (U:h.get? fI=some oI) (a:oI.cls=.type "function")
  (hq:∀h' e,Heap.MadeExcOf h h' e (.ref C) bu->h.objs.size<=e ->
   wpAny (model prog w) (A.under (.builtin "type.__call__" ⟨.ref C::bu,[]⟩)) (call (.ref fI) (.ref e::bu)) (λr s'=>r=.none/\Q (.ref e) s') E ⟨h',g,d,t,os⟩) (hrest:autoParam (bu.length<=sizeLine) Z8._auto_1):
  wpAny (model prog w) A (call (.ref C) bu) Q E ⟨h,g,d,t,os⟩:=by
 have f1:=tc_lookup;have f2:=tc_bind (.ref C);refine wpAny_call (codeAny_of_tree ?_);repeat (any_goals (first|assumption|with_reducible refine wpAny_loadPart_at M ?_|wp_step))
 refine⟨r4,?_⟩;refine codeAny_call_builtin_at (Code.quiet_builtin _ O9) entry_typeCall (wpAny_check_type_call_sub M (Fj (hrest:=hrest) X F O M hi U a λh' e hm hs=>?_));exact hq h' e hm hs
def q8 {M:Model}{env:PySem.Env}{s:Shared}{x:Sem Value}{Q:Flow->Shared->Prop}(hb:bm.contains (.type "BaseException")=true)(hh:A.handled=none)
  (hx:wpAny M A x (λv O=>∃e b dx,v=.ref e/\O.heap.get? C=some (excClassObj nm q C N bs bm hdct sn sub ab col dd k0 k1 k2 k3 k5 newId) /\
   O.heap.get? e=some { cls:=.ref C,dict:=dx,data:=.fields #[.ref b,.none,.none,.none,.bool false,.none] }/\E (.ref e) O) E s):
  wpAny M A (raiseStmt env (some x) none) Q E s:=by
 have a:(Value.ref C::bm).contains (.type "BaseException")=true:=by rw[List.contains_cons,hb,Bool.or_true]
 unfold raiseStmt;refine wX (wpAny_mono hx (λv O U=>?_) λz z x=>x);obtain⟨e,b,dx,rfl,c,he,f⟩:=U;obtain⟨hp,g,d,tk,os⟩:=O;repeat (first|with_reducible refine wpAny_loadPart_at he ?_|with_reducible refine wpAny_loadPart_at c ?_|(with_reducible refine wpAny_isSubtype_exc c ?_;rw[a])|wp_step)
 exact wpAny_raiseNew_none hh f
end
end EX
namespace EX
open PySem PySem.W Builtin Builtin.ObjectAttr
open Sem (wp)
section
variable {prog:Program}{w:World}{A:Around}{E:QV}{h:Heap}{g:Array GenState}{d:Drawn}{t:Nat}{os:OsState}
variable {nm q:Str}{C N x:Addr}{bs bm Xf:LU}{sn:LS}{sub:LU}{ab:Bool}{col:Option Bool}{dd:Option Addr}{k0 k1 k2 k3 k5:Option Value}{B newId A7:String}{name:Str}{v:Value}{o:Obj}
def Fk {K:Frag}(X:K.In h){tk:Tok}{Q:Fin->Shared->Prop}(hp:∀self:Value,refuseLoop self "__setattr__" bm=pure ())
  (r:h.get? C=some (excClassObj nm q C N bs bm true sn sub ab col dd k0 k1 k2 k3 k5 newId)) (z:findIn K (.ref C) name=some none)
  (hx:h.get? x=some o) (hc:o.cls=.ref C) (a:∀c,o.data≠.cls c) (f:o.dict=none)
  (hq:∀h' D,h'.get? x=some { o with dict:=some h.objs.size }->h'.Ns1 h.objs.size (λy=>if y=name then some v else none)->(∀b ob,b≠x->h.get? b=some ob->h'.get? b=some ob)->Q (.done (.ret .none)) ⟨h',g,d,D,os⟩):
  wpAny (model prog w) A (Builtin.«object.__setattr__» ⟨[.ref x,.str name tk,v],[]⟩) Q E ⟨h,g,d,t,os⟩:=by
 have U:=hp (.ref x);have L:=looks_findIn (M:=model prog w) X z;unfold Builtin.«object.__setattr__»;repeat (first|rw[refuse_eq]|(rw[refuseLoop_ref,U])|(with_reducible refine wpAny_loadPart_at hx ?_;rw[hc])|with_reducible refine wpAny_mroOf_exc r ?_|wp_step)
 refine L _ _ _ _ (λ_ _ e=>e) ?_;repeat (first|(with_reducible refine wpAny_loadPart_at hx ?_;rw[hc])|with_reducible refine wpAny_loadPart_at r ?_|wp_step)
 rw[f,if_neg (by simp[typeHasDict])];split
 .rename_i i;cases i
 split
 .rename_i c i;exact absurd i (a c)
 .have O:(h.push { cls:=.type "dict",data:=.dict #[] }).get? x=some o:=vZ _ hx;have s:x≠h.objs.size:=vS (vX hx);refine wX (wpAny_alloc' ?_);refine wX (wpAny_update' O ?_);refine wY ?_;have k:((h.push { cls:=.type "dict",data:=.dict #[] }).update x λo=>{ cls:=o.cls,dict:=some h.objs.size,data:=o.data,slots:=o.slots }).Ns h.objs.size (λ_=>none):=
   ⟨_,#[],_,(Heap.get?_update_ne _ _ _ _ s.symm).trans (Heap.get?_push_at r4 r4),r4,λe he=>absurd he X9,λ_=>r4⟩
  show wpAny _ _ (storeInDict h.objs.size (.str name tk) name v) _ _ _;unfold storeInDict newKeyGuard;refine wX (wY (wX (wpAny_nsSet1 (Heap.Ns1.of_empty k) λh' u hs=>?_)));obtain⟨J,F,G,H,l,m⟩:=u.count (Within.cons name v Within.nil);refine wX (wpAny_lookBehind H (by rw[l];exact pastItsLine_dict (vR m (by rw[vE,length_nil,sizeLine_eq];omega))) ?_);wp_walk;refine hq h' _ ?_ ?_ (λb ob n hb=>?_)
  .refine(hs.2 x s).trans (Heap.get?_update_self _ O ?_);have I:=(Heap.get?_some_iff.mp hx).2;obtain⟨oc,od,p,gZ⟩:=o;cases p<;>first|rfl|exact I
  .exact u
  .exact(hs.2 b (vS (vX hb))).trans ((Heap.get?_update_ne _ _ _ _ n).trans (vZ _ hb))
set_option tactic.hygienic true in
def M7 {K:Frag}(X:K.In h){Q:Unit->Shared->Prop}(hp:∀self:Value,refuseLoop self "__setattr__" bm=pure ())(e:mroIn K C (.type "object")=some true)
  (f:h.get? C=some (excClassObj nm q C N bs bm true sn sub ab col dd k0 k1 k2 k3 k5 newId)) (hs:findIn K (.ref C) "__setattr__" = some (some (.builtin "object.__setattr__"))) (i:findIn K (.ref C) name=some none)
  (hx:h.get? x=some o) (hc:o.cls=.ref C) (O:∀c,o.data≠.cls c) (U:o.dict=none)
  (hq:∀h' M,h'.get? x=some { o with dict:=some h.objs.size }->h'.Ns1 h.objs.size (λy=>if y=name then some v else none)->(∀b ob,b≠x->h.get? b=some ob->h'.get? b=some ob)->Q () ⟨h',g,d,M,os⟩):
  wpAny (model prog w) A (setAttr (.ref x) name v) Q E ⟨h,g,d,t,os⟩:=by
 have a:=PySem.F.store_object;have I:InstAt h x o C none:=⟨hx,hc,by unfold notCls;split<;>first|rfl|(rename_i c q;exact absurd q (O c)),by rw[U];trivial⟩
 refine set_plain X I hs ?_;refine codeAny_call_builtin a.slot.plain a.entry (@check_slot (model prog w) _ _ ⟨h,g,d,t+1,os⟩ "object.__setattr__" "object" "__setattr__" (.ref x) [.str name t,v] [] _ a.kind a.split (I.type.andThen (looks_mroIn X e)) (a.args (.ref x) (.str name t) v) ?_);exact Fk X hp f i hx hc O U λh' M a1 a2 a3=>hq h' M a1 a2 a3
end
open Sem (wp)
def yk:builtinKind "BaseException.__getattribute__" = some .slot:=O9
def sV:splitId "BaseException.__getattribute__" = some ("BaseException","__getattribute__"):=O9
section
variable {prog:Program}{w:World}{A:Around}{E:QV}{s:Shared}{K:Frag}{x C:Addr}{ox:Obj}{od:Option Obj}{name:Str}{Nn:Bool}{Q:QV}{v:Value}
def M8 (X:K.In s.heap)(I:InstAt s.heap x ox C od)(U:findIn K (.ref C) "__getattribute__" = some (some (.builtin "BaseException.__getattribute__")))(hk:findIn K (.ref C) "__getattr__" = some none)
  (hb:mroIn K C (.type "BaseException")=some true) (hf:findObj K C od name=some (.value v)) (hh:handedIn v=true) (h:Q v { s with toks:=s.toks+1 }):wpAny (model prog w) A (getAttr (.ref x) name Nn) Q E s:=by
 obtain⟨O,g,d,t,os⟩:=s;have a:=I.type (M:=model prog w);have c:=looks_findIn (M:=model prog w) X U;have L2:=looks_findIn (M:=model prog w) X hk;have e:=looks_find (M:=model prog w) X I hf;have b:=PySem.F.excAttr_ValueError;unfold getAttr getAttrBy;refine wX (wpAny_mkText (wpAny_holding (wX (a.at (wX (c.at ?_))))));unfold getAttrByItsOwn hookBefore;refine wX ?_;refine L2.at ?_;refine wX (wpAny_attempt (wpAny_holding ?_));unfold callGetattribute;rw[if_neg (by cases Nn<;>decide)]
 unfold boundAndCalled;refine wX ?_;rw[b.ga.bind (.ref x)];refine wY ?_;refine wpAny_call (codeAny_call_builtin b.ga.plain F.entry_bexc_ga (@check_slot (model prog w) _ _ ⟨O,g,d,t+1,os⟩ "BaseException.__getattribute__" "BaseException" "__getattribute__" (.ref x) [.str name t] [] _ yk sV (a.andThen (looks_mroIn X hb)) (F.args_bexc_ga (.ref x) (.str name t)) ?_));unfold Builtin.«object.__getattribute__»;refine wX (wY (wX (wY (wX (a.at (wX (e.at ?_)))))));refine wY ?_;show wpAny _ _ (handedOut v) _ _ _;rw[handedOut_of hh];exact wY h
end
open Sem (wp)
section
variable {prog:Program}{w:World}{A:Around}{E:QV}{s:Shared}{K:Frag}{x C:Addr}{ox:Obj}{od:Option Obj}{name:Str}{v:Value}
def M9 {Q:Option Value->Shared->Prop}(X:K.In s.heap)(I:InstAt s.heap x ox C od)(U:findIn K (.ref C) "__getattribute__" = some (some (.builtin "BaseException.__getattribute__")))(hk:findIn K (.ref C) "__getattr__" = some none)
  (hb:mroIn K C (.type "BaseException")=some true) (hdct:hasDictIn K C=true) (ha:findIn K (.ref C) "__class__" = some (some (.builtin "object.__class__")))
  (hn:specialIn K (.builtin "object.__class__") "__get__" = some (some (.builtin "getset_descriptor.__get__"))) (Sg:takesIn K (.builtin "object.__class__")=some true) (hm:mroIn K C (.type "object")=some true)
  (h:Q (some (.ref C)) { s with toks:=s.toks+1 }):wpAny (model prog w) A (getAttr? (.ref x) "__class__") Q E s:=by
 refine cX λG k=>?_;obtain⟨O,g,d,t,os⟩:=s;have a:=I.type (M:=model prog w);have c:=looks_findIn (M:=model prog w) X U;have L2:=looks_findIn (M:=model prog w) X hk;obtain⟨j,e,z⟩:=any_some hdct;apply k;have hf:findObj K C od "__class__" = some (.bind (.builtin "getset_descriptor.__get__") (.builtin "object.__class__")):=(by unfold findObj;rw[e];simp[ha,hn,Sg]);have f:=looks_find (M:=model prog w) X I hf;have i:Looks (model prog w) O (isInstance (.ref x) (.type "BaseException")) true:=a.andThen (looks_mroIn X hb);have b:=PySem.F.excAttr_ValueError;unfold getAttr? getAttrBy?;refine wX (wpAny_mkText (wX (wpAny_attempt ?_)));unfold getAttrBy;refine wpAny_holding (wX (a.at (wX (c.at ?_))));show wpAny _ _ (getAttrByItsOwn _ _ _ _ _ _) _ _ _;unfold getAttrByItsOwn hookBefore;refine wX ?_;rw[if_pos (show onTheHeap (Value.ref C)=true from r4)];refine L2.at ?_;refine wX (wpAny_attempt (wpAny_holding ?_));unfold callGetattribute;rw[if_neg Z9];unfold boundAndCalled;refine wX ?_;rw[b.ga.bind (.ref x)];refine wY ?_;refine wpAny_call (codeAny_call_builtin b.ga.plain F.entry_bexc_ga (@check_slot (model prog w) _ _ ⟨O,g,d,t+1,os⟩ "BaseException.__getattribute__" "BaseException" "__getattribute__" (.ref x) [.str "__class__" t] [] _ yk sV i (F.args_bexc_ga (.ref x) (.str "__class__" t)) ?_));unfold Builtin.«object.__getattribute__»;refine wX (wY (wX (wY (wX (a.at (wX (f.at ?_)))))));refine wX (wpAny_holding (wpAny_call (class_get (s:=⟨O,g,d,t+1,os⟩) (ox:=ox) (od:=od) X I hm ?_)));refine wY ?_;exact wY (wY h)
set_option tactic.hygienic true in
def Ja (O:findIn K (.ref C) "__getattribute__" = some (some (.builtin "BaseException.__getattribute__")))(hk:findIn K (.ref C) "__getattr__" = some none)
  (hb:mroIn K C (.type "BaseException")=some true) (hdct:hasDictIn K C=true) (ha:findIn K (.ref C) "__class__" = some (some (.builtin "object.__class__")))
  (hn:specialIn K (.builtin "object.__class__") "__get__" = some (some (.builtin "getset_descriptor.__get__"))) (Sg:takesIn K (.builtin "object.__class__")=some true) (hm:mroIn K C (.type "object")=some true):
  KitX K (.ref x) (.ref C) (λh=>∃ox od,InstAt h x ox C od) where
 ty:=λ_ _ _ ⟨_,_,I⟩=>I.type
 it:=λ_ _ X _=>by
  obtain⟨yD,M,_⟩:=any_some hdct;unfold clsIn at M;split at M
  .rename_i c d' U d a;intro g i j s' k q;unfold isType loadHead;exact wX (wpAny_loadPart (k _ _ (X _ _ a)) (wY q))
  .cases M
 ne:=λh f dd its n sl X b=>by
  obtain⟨yD,M,_⟩:=any_some hdct;refine Bool.eq_false_iff.mpr λq=>?_;have e:C=f:=Value.ref.inj (beq_iff_eq.mp q);subst e;unfold clsIn at M;split at M
  .rename_i c d' U d a;have z:=(X _ _ a).symm.trans b;cases z
  .cases M
 ca:=λX ⟨_,_,I⟩ k=>M9 X I O hk hb hdct ha hn Sg hm k
end
end EX
namespace EX
open PySem PySem.W
def Kp (fr ch:List Addr)(h h':Heap):Prop:=∀b o,h.get? b=some o->b∉ch->(b∉fr->h'.get? b=some o)/\∃sl,h'.get? b=some { o with slots:=sl }
def Kp.trans(k1:Kp fr ch h h1)(k2:Kp fr ch h1 h2):Kp fr ch h h2:=λb o e n=>by
 obtain⟨a1,sl,a2⟩:=k1 b o e n;obtain⟨z,M,a3⟩:=k2 b _ a2 n;exact⟨λhf=>(k2 b o (a1 hf) n).1 hf,M,a3⟩
def Kp.more{h h':Heap}(k:Kp fr ch h h')(s:∀b o,h.get? b=some o->b∈ch->b∈ch'):Kp fr ch' h h':=λb o e n=>k b o e λz=>n (s b o e z)
def Kp.other(h)f:Kp fr [a] h (h.update a f):=λb o e n=>by
 have:(h.update a f).get? b=some o:=by rw[Heap.get?_update_other _ _ (λz=>n (by rw[z];exact mem_singleton.mpr r4))];exact e
 exact⟨λy=>this,o.slots,this⟩
def Jb {h:Heap}{a:Addr}{o:Obj}{vs:AV}(M:h.get? a=some o)(hd:o.data=.fields vs)(i)x:
  (h.update a (Obj.mapFields (·.setIfInBounds i x))).get? a=some { o with data:=.fields (vs.setIfInBounds i x) }:=by
 have e:Obj.mapFields (·.setIfInBounds i x) o={ o with data:=.fields (vs.setIfInBounds i x) }:=by
  obtain⟨c,d,dt,sl⟩:=o;subst hd;rfl
 have:=Heap.get?_update_self (Obj.mapFields _) M (by rw[e];rfl);rw[this,e]
section
variable {M:Model}{A:Around}{E:QV}{s:Shared}{base:Heap}{env:Env}{outer:List Env}{L e:Addr}{oe:Obj}{vs:AV}
def entry {head:Value}{c:Bool}{Q:Unit->Shared->Prop}(i:A.frames=some (env::outer))(hl:s.heap.FunFrames base (env::outer))(hf:env.frame=some L)
  (he:s.heap.get? e=some oe) (hd:oe.data=.fields vs) (hsz:1<vs.size)
  (h:∀h' T d ts,h'.get? e=some { oe with data:=.fields (vs.setIfInBounds 1 (.ref T)) }->s.z<=T->h'.get? T=some d->d.data=.fields ts->ts[3]? = some (rawInt L)->Kp (L::outer.filterMap (·.frame)) [e] s.heap h'->Q () { s with heap:=h' }):
  wpAny M A (frameOf env>>=λa=>entryPlaceOf L c>>=λpl=>EntryCells.newEntry head a .none (rawInt L) .none pl>>=λb=>setField (.ref e) 1 b) Q E s:=by
 have U:(env::outer).filterMap (·.frame)=L::outer.filterMap (·.frame):=by rw[List.filterMap_cons,hf]
 refine wX (wpAny_frameOf_fun i hl hf λh1 k1=>wX (wpAny_entryPlaceOf λpl hp=>?_));rw[U]at k1;have O:h1.get? e=some oe:=(k1.2.1 e λhm=>by
  obtain⟨y,o,f,hn⟩:=hl.mem (b:=e) (by rw[U];exact hm);rw[he]at f;cases f;exact hn vs hd).trans he;refine wX (wpAny_newObj_type (wpAny_setField (vZ _ O) hd hsz ?_) (hp.sizeOk5 _ _ _ _ _));have k:h1.objs.size≠e:=ne_of_gt (vX O);refine h _ h1.objs.size _ _ (Jb (vZ _ O) hd 1 _) ?_ ((Heap.get?_update_other _ _ (Ne.symm k)).trans (vY h1 r4)) r4 ?_ ?_
 .exact le_of_eq k1.1.symm
 .first|(simp;done)|(rcases hp with rfl|⟨y,y,y,y,y,y,y,rfl⟩<;>simp)
 .intro b o hb hn;have g:b≠e:=λz=>hn (by rw[z];exact mem_singleton.mpr r4);obtain⟨sl,z⟩:=k1.2.2 b o hb;exact⟨λq=>(Heap.get?_update_other _ _ (Ne.symm g)).trans (vZ _ ((k1.2.1 b q).trans hb)),sl,(Heap.get?_update_other _ _ (Ne.symm g)).trans (vZ _ z)⟩
structure oF (h:Heap)(e T:Addr)(c:Value)(dx:Option Addr)(fl:Value):Prop where
 ob:∃o vs,h.get? e=some o/\o.cls=c/\o.dict=dx/\o.data=.fields vs/\vs[1]? = some (.ref T)
 tb:∃o ts,h.get? T=some o/\o.data=.fields ts/\ts[3]? = some fl
 ne:T≠e
def oF.set{dx:Option Addr}{fl:Value}{fr:List Addr}{f:Option Addr}{Q:Unit->Shared->Prop}(F:oF s.heap e T c dx fl)
  (h:∀h',oF h' e T c dx (f.elim .none λf=>rawInt f)->Kp fr [T] s.heap h'->Q () { s with heap:=h' }):wpAny M A (setFlight (.ref e) f) Q E s:=by
 refine cX λG g=>?_;obtain⟨⟨o,vs,U,hc,hx,hd,h1⟩,⟨b,ts,a,O,h3⟩,ne⟩:=F;apply g;refine wX (wpAny_field U hd h1 ?_);refine wpAny_setField a O (Array.getElem?_eq_some_iff.mp h3).1 (h _ ⟨⟨o,vs,(Heap.get?_update_other _ _ ne).trans U,hc,hx,hd,h1⟩,⟨_,_,Jb a O 3 _,r4,?_⟩,ne⟩ (Kp.other _ _));rw[Array.getElem?_setIfInBounds_self_of_lt (Array.getElem?_eq_some_iff.mp h3).1]
def oF.land(F:oF s.heap e T c dx fl)
  (h:∀h',oF h' e T c dx .none->Kp fr [T] s.heap h'->Q () { s with heap:=h' }):wpAny M A (setFlight (.ref e) none) Q E s:=F.set h
def Ai(O:A.frames=some (env::outer))(hl:s.heap.FunFrames base (env::outer))(hf:env.frame=some L)
  (he:s.heap.get? e=some oe) (hd:oe.data=.fields vs) (h1:vs[1]? = some .none) (hx:oe.dict=dx)
  (h:∀h' T,oF h' e T oe.cls dx (rawInt L)->s.z<=T->Kp (L::outer.filterMap (·.frame)) [e] s.heap h'->Q () { s with heap:=h' }):wpAny M A (noteFrame (.ref e) env) Q E s:=by
 have hs:=(Array.getElem?_eq_some_iff.mp h1).1;unfold noteFrame;simp only[hf];refine wX (wpAny_field he hd h1 ?_);rw[if_neg Z9];refine entry O hl hf he hd hs λh' T c ts a1 a2 a3 U a b=>h h' T ⟨⟨_,_,a1,r4,hx,r4,by rw[Array.getElem?_setIfInBounds_self_of_lt hs]⟩,⟨_,_,a3,U,a⟩,λz=>absurd (vX he) (by rw[<-z];exact Nat.not_lt.mpr a2)⟩ a2 b
def Fl(hf:env.frame=some L)(F:oF s.heap e T c dx fl)(O:(fl == rawInt L)=true)(h:Q () s):wpAny M A (noteFrame (.ref e) env) Q E s:=by
 refine cX λG g=>?_;obtain⟨⟨o,vs,a,hc,hx,hd,h1⟩,⟨d,ts,b,U,h3⟩,ne⟩:=F;apply g;unfold noteFrame;simp only[hf];refine wX (wpAny_field a hd h1 ?_);refine wX (wpAny_field b U h3 ?_);rw[if_pos O];exact wY h
def jr(i:A.frames=some (env::outer))(hl:s.heap.FunFrames base (env::outer))(hf:env.frame=some L)(F:oF s.heap e T c dx fl)(j:¬((fl == rawInt L)=true))
  (h:∀h' U,oF h' e U c dx (rawInt L)->s.z<=U->Kp (L::outer.filterMap (·.frame)) [e,T] s.heap h'->Q () { s with heap:=h' }):wpAny M A (noteFrame (.ref e) env) Q E s:=by
 refine cX λG K=>?_;obtain⟨⟨o,vs,a,hc,hx,hd,h1⟩,⟨q,ts,d,O,h3⟩,ne⟩:=F;apply K;have hs:=(Array.getElem?_eq_some_iff.mp h1).1;unfold noteFrame;simp only[hf];refine wX (wpAny_field a hd h1 ?_);refine wX (wpAny_field d O h3 ?_);rw[if_neg j];refine wX (wpAny_setField d O (Array.getElem?_eq_some_iff.mp h3).1 ?_);have kp:Kp (L::outer.filterMap (·.frame)) [T] s.heap (s.heap.update T (Obj.mapFields (·.setIfInBounds 3 Value.none))):=Kp.other _ _;refine entry i (hl.of_keeps λb o' hb hn=>by
  obtain⟨y,sl,z⟩:=kp b o' hb λz=>by rw[uU z,d]at hb;cases hb;exact hn ts O
  exact⟨_,z,r4⟩) hf ((Heap.get?_update_other _ _ ne).trans a) hd hs λh' U k l a1 a2 a3 m n p=>?_;have g:s.z<=U:=vR (le_of_eq (Heap.size_update s.heap T _).symm) a2;refine h h' U ⟨⟨_,_,a1,hc,hx,r4,by rw[Array.getElem?_setIfInBounds_self_of_lt hs]⟩,⟨_,_,a3,m,n⟩,λz=>absurd (vX a) (by rw[<-z];exact Nat.not_lt.mpr g)⟩ g ?_;exact(kp.more λb y y z=>mZ _ z).trans (p.more λb y y z=>by rw[uU z];exact mX)
end
end EX
namespace EX
open PySem PySem.Spec PyProof.Rows L2
open PySem.W (Frag findIn mroIn keepIn isFn)
noncomputable def vh (C M:Addr)(d:Option Addr):Obj:={ cls:=.ref C,dict:=d,data:=.fields #[.ref M,.none,.none,.none,.bool false,.none] }
noncomputable def XN (e C M:Addr)(d:Option Addr):HO:=.ext λh=>h.get? e=some (vh C M d)
noncomputable def XO (e C:Addr)(d:Option Addr):HO:=.ext λh=>∃o vs,h.get? e=some o/\o.cls=.ref C/\o.dict=d/\o.data=.fields vs
def Jc(x:h.get? e=some (vh C M d)):aE P w H h e (XN e C M d):=⟨x,⟨_,x⟩,λz z p k=>k _ p⟩
def Jd(x:aE P w H h e (XN e C M d)):h.get? e=some (vh C M d):=And.left x
def VV(x:∃o vs,h.get? e=some o/\o.cls=.ref C/\o.dict=d/\o.data=.fields vs):aE P w H h e (XO e C d):=
 ⟨x,let ⟨o,_,q,_⟩:=x;⟨o,q⟩,λz z ⟨o,vs,q,r⟩ k=>⟨o,vs,k _ q,r⟩⟩
def Ow(x:aE P w H h e (XO e C d)):∃o vs,h.get? e=some o/\o.cls=.ref C/\o.dict=d/\o.data=.fields vs:=And.left x
structure Ec (K:Frag)(C:Addr):Prop where
 ob:∃nm q N bs bm sn sub ab col dd k0 k1 k2 k3 k5,K.lookup C=some (excClassObj nm q C N bs bm true sn sub ab col dd k0 k1 k2 k3 k5 "ValueError.__new__")/\(PySem.W.tailIn K Ah bm=true/\bm.contains (.type "BaseException")=true)/\∀self:Value,refuseLoop self "__setattr__" bm=pure ()
 kp:keepIn K (.ref C)=true
 st:findIn K (.ref C) "__setattr__" = some (some (.builtin "object.__setattr__"))
 bo:mroIn K C (.type "object")=some true
section
variable {X:Cx}{C fI:Addr}{aa:AO}{σ:L2.St}{H:Hp}{s:Shared}
def MA {A:Around}{E:QV}{e U:Addr}{name:Str}{v:V}{u:Value}{Q:Unit->Shared->Prop}(c:Ec X.K C)(i:findIn X.K (.ref C) name=some none)(I:Inv X aa σ H s)(he:H e=some (XN e C U none))(j:aA v u)
  (h:∀s',Inv X aa σ (upd (upd H s.z (.xd [(name,v)])) e (XN e C U (some s.z))) s'->Q () s'):wpAny (model X.prog X.w) A (setAttr (.ref e) name u) Q E s:=by
 refine cX λW Y=>?_;obtain⟨nm,q,N,bs,bm,sn,sub,ab,col,dd,k0,k1,k2,k3,k5,k,Z,hp⟩:=c.ob;have xe:=Jd (I.hok e _ he);obtain⟨hh,g,d,t,os⟩:=s;apply Y;refine M7 (o:=vh C U none) I.kIn hp c.bo (I.kIn _ _ k) c.st i xe r4 (λZ z=>nomatch z) r4 λh' l a1 a2 a3=>h _ ?_;have p:e<hh.objs.size:=vX xe;have x:hh.objs.size≠e:=ne_of_gt p;have hf:H hh.objs.size=none:=I.hok.fresh (vT _);refine I.step (g':=g) (d':=d) (t':=l) (ch:=[]) (λZ z=>nomatch z) (λb o Z Z Z q n=>a3 b o (λz=>by rw[z,he]at n;cases n) q) (λb o Z Z Z q n=>⟨o.slots,a3 b o (λz=>by rw[z,he]at n;cases n) q⟩) (λb o Z q n=>?_) (λb o Z q=>?_) (λb xs q=>?_) (λb o' u' q=>?_) (λb G q=>?_) (λm hm=>?_) ?_ I.bare
 .rw[af (λz=>by rw[z,he]at n;cases n),af (vS (vX q))];exact n
 .by_cases z:b=e
  .rw[z];exact⟨_,a1⟩
  .exact⟨o,a3 b o z q⟩
 .rw[af (λz=>by rw[z,he]at q;cases q),af (ar q hf)];exact q
 .rw[af (λz=>by rw[z,he]at q;cases q),af (ar q hf)];exact q
 .rw[af (λz=>by rw[z,he]at q;cases q),af (ar q hf)];exact q
 .obtain⟨o,es,B,D,r⟩:=hm;exact⟨o,es,B,a3 _ o (λz=>by have:=I.free;rw[z,he]at this;cases this) D,r⟩
 .intro b u' q;by_cases z:b=e
  .subst z;rw[ae]at q;cases q;exact Jc a1
  .rw[af z]at q;by_cases a:b=hh.objs.size
   .subst a;rw[ae]at q;cases q;refine⟨_,a2,λf=>?_⟩;by_cases O:f=name
    .subst O;simp[gx,j]
    .have:(name,v).1≠f:=λy=>O y.symm;simp[List.lookup,O,gx,beq_eq_false_iff_ne.mpr O]
   .rw[af a]at q;have M:∀c:Addr,H c=some (.own b)->c≠e:=λc r z=>by rw[z,he]at r;cases r
    refine(I.hok b u' q).stay (λc F hc r=>a3 c F ?_ r) (λc r=>?_) (λc xs r=>?_) λc o xs r=>?_
    .rcases hc with rfl|hc
     .exact z
     .exact M c hc
    .rw[af (M c r),af (ar r hf)];exact r
    .rw[af (λz=>by rw[z,he]at r;cases r),af (ar r hf)];exact r
    .rw[af (λz=>by rw[z,he]at r;cases r),af (ar r hf)];exact r
end
open PySem.W (Frag findIn mroIn keepIn isFn)
def aE.has(new:aE P w H h a u):∃o,h.get? a=some o:=by
 cases u with
 |ext M=>exact new.2.1
 |lst xs=>obtain⟨x,x,x,x,z⟩:=new;exact⟨_,z⟩
 |tup xs=>obtain⟨x,x,x,x,z,x⟩:=new;exact⟨_,z⟩
 |dK ay ob=>exact⟨_,And.left new⟩
 |dT ay=>obtain⟨x,x,x,x,o,x,x,z,x⟩:=new;exact⟨_,z⟩
 |set S n=>obtain⟨o,x,x,x,z,x⟩:=new;exact⟨_,z⟩
 |ins C dx fs=>obtain⟨x,x,x,z,x⟩:=new;exact⟨_,z⟩
 |own y=>obtain⟨x,z⟩:=new;exact⟨_,z⟩
 |xd fs=>obtain⟨x,⟨x,x,x,z,x⟩,x⟩:=new;exact⟨_,z⟩
 |rng lo hi=>obtain⟨x,x,x,z⟩:=new;exact⟨_,z⟩
 |frz ob u=>obtain⟨z,x⟩:=new;exact⟨_,z⟩
 |tbl O=>obtain⟨x,z,x⟩:=new;exact⟨_,z⟩
 |met f y=>exact⟨_,new⟩
def gy.none(x:gy P w H h)(e:h.get? a=Option.none):H a=Option.none:=by
 cases q:H a with
 |none=>rfl
 |some u=>
  obtain⟨o,z⟩:=aE.has (x a u q);rw[e]at z;cases z
def Je(I:Inv X aa σ H s)(k:∀b u,s.heap.get? b=some u->h'.get? b=some u)(M:s.heap.get? a=none)(new:aE X.prog X.w (upd H a o) h' a o):
  Inv X aa σ (upd H a o) { s with heap:=h',toks:=t' }:=by
 have hn:=gy.none I.hok M;refine I.un ⟨λb u q y y y=>k b u q,λb u q y y y=>⟨u.slots,k b u q⟩,λb u q n y=>?_,λb u q y=>⟨u,k b u q⟩,λb xs q=>?_,λb u xs q=>?_,λb ps q=>?_⟩ λb u e=>?_
 .rw[af (λz=>by rw[z,M]at q;cases q)];exact n
 .rw[af (ar q hn)];exact q
 .rw[af (ar q hn)];exact q
 .rw[af (ar q hn)];exact q
 .by_cases hb:b=a
  .subst hb;rw[ae]at e;cases e;exact new
  .rw[af hb]at e;exact(I.hok b u e).stay (λc v y q=>k c v q) (λc q=>by rw[af (ar q hn)];exact q) (λc xs q=>by rw[af (ar q hn)];exact q) λc o xs q=>by rw[af (ar q hn)];exact q
section
variable {X:Cx}{C fI:Addr}{aa:AO}{σ:L2.St}{H:Hp}{s:Shared}
def di(I:Inv X aa σ H s)(he:H e=some (.ext φ))(k:Kp (lI X.stack) (e::Ts) s.heap h')
  (a:∀b∈Ts,H b=none/\X.s₀.z<=b/\b≠X.env.locals/\(∀x c,X.env.cells.lookup x=some c->c≠b)/\∀p∈X.pn++aa,p.1≠b) (new:aE X.prog X.w (upd H e u) h' e u):
  Inv X aa σ (upd H e u) { s with heap:=h' }:=by
 have ne:∀b,H b=none->b≠e:=λb n z=>by rw[z,he]at n;cases n
 have M:∀b v,H b=some v->(∀h,v≠.ext h)->b≠e:=λb v q n z=>by rw[z,he]at q;cases q;exact n _ r4
 have O:∀b,b≠e->b∉Ts->b∉e::Ts:=λb h1 h2 z=>(vP z).elim h1 h2;have d:=aE.has new;refine I.step (g':=s.gens) (d':=s.drawn) (t':=s.toks) (ch:=Ts) (λb hb=>let ⟨_,a2,a3,j,l⟩:=a b hb;⟨.inr a2,a3,j,l⟩) (λb o t hb hc q n=>(k b o q (O b (ne b n) hc)).1 ((λb h1 h2 z=>(vP (I.stkSub b z)).elim h1 h2) b t hb)) (λb o i i hc q n=>(k b o q (O b (ne b n) hc)).2) (λb o i q n=>by rw[af (ne b n)];exact n) (λb o hc q=>?_)
  (λb xs q=>by rw[af (M b _ q λi z=>nomatch z)];exact q) (λb o' u' q=>by rw[af (M b _ q λi z=>nomatch z)];exact q) (λb F q=>by rw[af (M b _ q λi z=>nomatch z)];exact q) (λm hm=>?_) (λb v q=>?_) I.bare
 .by_cases z:b=e
  .rw[z];exact d
  .obtain⟨sl,y⟩:=(k b o q (O b z hc)).2;exact⟨_,y⟩
 .obtain⟨o,es,A,B,r⟩:=hm;obtain⟨sl,y⟩:=(k _ o B (O _ (ne _ I.free) λz=>(a _ z).2.2.1 r4)).2;exact⟨_,es,A,y,r⟩
 .by_cases z:b=e
  .subst z;rw[ae]at q;cases q;exact new
  .rw[af z]at q;have f:∀c U,H c=some U->c≠e->∀o,s.heap.get? c=some o->h'.get? c=some o:=λc U g D o E=>
    (k c o E (O c D λy=>by have:=(a c y).1;rw[g]at this;cases this)).1 λy=>by have:=I.stkFree c y;rw[g]at this;cases this
   refine(I.hok b v q).stay (λc U hc r=>?_) (λc r=>by rw[af (M c _ r λi z=>nomatch z)];exact r) (λc xs r=>by rw[af (M c _ r λi z=>nomatch z)];exact r) λc o xs r=>by rw[af (M c _ r λi z=>nomatch z)];exact r
   rcases hc with rfl|hc
   .exact f c v q z U r
   .exact f c _ hc (M c _ hc λi z=>nomatch z) U r
def fj (P:Program)(w:World):K8:=λouter H s E ev s'=>∃e C dx T H',ev=.ref e/\s'.os=s.os/\AllBare s'.gens/\Un (lI outer) [] H H' s.heap s'.heap/\gy P w H' s'.heap /\
 oF s'.heap e T (.ref C) dx .none/\H' e=some (XO e C dx)/\H' T=none/\s.z<=T/\E (.ref C) dx H'
def oF.xo(F:oF h e T (.ref C) d fl):aE P w H h e (XO e C d):=
 let ⟨o,vs,a,b,c,d,_⟩:=F.ob;VV ⟨o,vs,a,b,c,d⟩
def Ox {P:Program}{w:World}{K:Frag}{mg:SV}{base:Heap}{N:LS}{qual:Str}{scope:Scope}{f:Addr}{M:Value}{A:Around}{outer:List Env}{s₀:Shared}{H₀:Hp}{E:XK}{e c:Addr}{dx:Option Addr}
  (I:Inv (bK (fj P w) P w K mg base N qual scope f M A outer s₀ H₀ E) aa σ H s) (he:H e=some (XN e C c dx)) (d:E (.ref C) dx (upd H e (XO e C dx))):
  (bK (fj P w) P w K mg base N qual scope f M A outer s₀ H₀ E).xe (.ref e) s:=by
 have xe:=Jd (I.hok e _ he);show wpAny _ _ (leaving _ (.ref e)) _ _ s;unfold leaving;refine wX (Ai (base:=base) (L:=s₀.z) (dx:=dx) I.ok.frames I.stack r4 xe r4 r4 r4 λh1 T g O h=>?_);refine oF.land (s:={ s with heap:=h1 }) (fr:=s₀.z::lI outer) g λh2 a i=>?_;have j:Kp (lI (bK (fj P w) P w K mg base N qual scope f M A outer s₀ H₀ E).stack) (e::[]) s.heap h2:=by
  have k:lI (bK (fj P w) P w K mg base N qual scope f M A outer s₀ H₀ E).stack=s₀.z::outer.filterMap (·.frame):=r4;rw[k];refine((h.more (ch':=[e,T]) λb y y z=>by rw[uU z];exact mX).trans (i.more λb y y z=>mZ _ z)).more λb o q z=>?_;rcases vP z with z|z
  .rw[z];exact mX
  .rw[uU z]at q;exact absurd (vX q) (Nat.not_lt.mpr O)
 have J:=di (u:=XO e C dx) (h':=h2) I he j (λy z=>nomatch z) a.xo;have U:=vX xe;exact⟨e,C,dx,T,_,r4,J.os,J.bare,J.base,J.hok,a,ae,by rw[af (ne_of_gt (vQ U O))];exact I.hok.fresh O,vR I.sz O,d⟩
end
open PySem.W (Frag findIn mroIn keepIn isFn)
def dH (H:Hp)(e C M dx:Addr)(name:Str)(v:V):Hp:=upd (upd (upd H e (XN e C M none)) dx (.xd [(name,v)])) e (XN e C M (some dx))
def Jf {H:Hp}{e C M dx:Addr}{name:Str}{v:V}:dH H e C M dx name v e=some (XN e C M (some dx)):=ae
def QQ(n:dx≠e):dH H e C M dx name v dx=some (.xd [(name,v)]):=by unfold dH;rw[af n,ae]
def QR(n:b≠e)(m:b≠dx):dH H e C M dx name v b=H b:=by unfold dH;rw[af n,af m,af n]
inductive KF (C:Addr)(name:Str)(vs:List V)(H:Hp)(Q:VK):Prop|mk e M v:vs=[.ref e,v]->H e=some (XN e C M none)->(∀dx,H dx=none->Q .non (upd (upd H dx (.xd [(name,v)])) e (XN e C M (some dx))))->KF C name vs H Q
def Se (C:Addr)(name:Str):Sp:=λvs H Q z=>KF C name vs H Q
section
variable {X:Cx}{C fI:Addr}{aa:AO}{σ:L2.St}{H:Hp}{s:Shared}{o value a:Expr}{name x:Str}{pos nJ p aO:Pos}{ta tv:TE}
def VW (C:Addr)(ta tv:TE)(name:Str):TS:=λD σ H=>tv σ H λy O=>ta σ O λx H2=>∃e M,x=.ref e/\H2 e=some (XN e C M none)/\∀dx,H2 dx=none->D.nx σ (upd (upd H2 dx (.xd [(name,y)])) e (XN e C M (some dx)))
def QS (c:Ec X.K C)(M:findIn X.K (.ref C) name=some none)(ha:PE X o ta)(U:PE X value tv)(hs:swapsWith value (some (.Attribute o name nJ)) pos.line X.env=pure false):PS X (.Assign [.Attribute o name nJ] value pos) (VW C ta tv name):=by
 intro aa s σ H D I h;refine plainObj_wpAny_Assign_Attribute (aV (U aa s σ H _ I h) λu s1 ⟨y,b,d,f,q⟩=>aV (ha aa s1 σ b _ d q) λg s2 ⟨x,H2,O,i,e,l,ex,j,q2⟩=>?_) hs;subst ex;obtain rfl:g=Value.ref e:=i;exact MA c M O j f λm k=>⟨σ,_,k,q2 _ (O.hok.fresh (vT _))⟩
def MB {k:Nat}{fd:FuncData}{ps:LS}{Q:VK}{v:V}{u:Value}(c:Ec X.K C)(hi:findIn X.K (.ref C) "__init__" = some (some (.ref fI)))(j:isFn X.K (.ref fI)=true)
  (F:dI X.prog X.w X.K X.mg X.base oR k fI fd ps (Se C name)) (l:bB (k+1) X.A) (hb:cL X.K fd ps []) (I:Inv X aa σ H s) (r:aA v u)
  (h:∀e dx O,s.z<=e->H e=none->H dx=none->dx≠e->Q (.ref e) (dH H e C O dx name v)):wq X (call (.ref C) [u]) (EP X aa σ Q) X.xe s:=by
 refine cX λG Y=>?_;obtain⟨nm,q,N,bs,bm,sn,sub,ab,col,dd,k0,k1,k2,k3,k5,m,U,hp⟩:=c.ob;obtain⟨hh,g,d,t,os⟩:=s;apply Y;obtain⟨oI,b,f⟩:∃oI,X.K.lookup fI=some oI/\oI.cls=.type "function":=by
  have z:=beq_iff_eq.mp j;unfold PySem.W.typeIn at z;cases q:X.K.lookup fI with
  |none=>simp[q]at z
  |some o=>simp[q]at z;exact⟨o,r4,z⟩
 refine IZ I.kIn PySem.F.excBase_ValueError (PySem.W.tail_of_in I.kIn U.1) (I.kIn _ _ m) hi (I.kIn _ _ b) f λh' e hm hs=>?_;obtain⟨O,he,x,x⟩:=hm.there;have i:Inv X aa σ (upd H e (XN e C O none)) { (⟨hh,g,d,t,os⟩:Shared)with heap:=h',toks:=t }:=I.laid hm.keeps hs (Jc he);have n:aD [V.ref e,v] [Value.ref e,u]:=.cons r4 (.cons r .nil);have hl:([Value.ref e,u]++[]).length=ps.length:=(F.len [.ref e,v] (upd H e (XN e C O none)) (λx x=>True) (λx x x=>True) ⟨e,O,v,r4,ae,λx x=>trivial⟩);have y:H e=none:=I.hok.fresh hs;have hq:Se C name [.ref e,v] (upd H e (XN e C O none)) (λw H2=>w=.non/\Q (.ref e) H2) (λx x x=>False):=
  ⟨e,O,v,r4,ae,λdx hx=>⟨r4,by
   have nd:dx≠e:=λz=>by rw[z,ae]at hx;cases hx
   rw[af nd]at hx;exact h e dx O hs y hx nd⟩⟩
 refine wpAny_call (codeAny_mono (F.run _ X.stack _ _ ⟨[Value.ref e,u],[]⟩ [Value.ref e,u] _ _ _ (l.make C [u] []) (i.env0.make C [u] []) (by have:=hb { (⟨hh,g,d,t,os⟩:Shared)with heap:=h',toks:=t } [Value.ref e,u] i.kIn hl;rwa [uR]at this) n hq) λr s' M=>?_);cases r with
 |error e=>exact False.elim M
 |ok fl=>
  cases fl with
  |ret u=>
   obtain⟨w,H',B,D,ev,E⟩:=i.after M;subst ev;exact⟨D,⟨V.ref e,H',B,r4,E⟩⟩
  |next=>exact False.elim M
  |brk=>exact False.elim M
  |cont=>exact False.elim M
def QT (ta:TE)(R:V->Hp->Prop):TS:=λz σ H=>ky ta t9 σ H λvs M=>∃v,vs=[v]/\R v M
def ym {k:Nat}{fd:FuncData}{ps:LS}{R:V->Hp->Prop}(c:Ec X.K C)(hi:findIn X.K (.ref C) "__init__" = some (some (.ref fI)))(t:isFn X.K (.ref fI)=true)
  (F:dI X.prog X.w X.K X.mg X.base oR k fI fd ps (Se C name)) (m:bB (k+1) X.A) (hb:cL X.K fd ps []) (y:Gl X x) (hm:X.mg x=some (.ref C)) (ha:PE X a ta)
  (d:∀aa s σ H e M dx v H0,Inv X aa σ H s->H=dH H0 e C M dx name v->X.s₀.z<=e->H0 e=none->H0 dx=none->dx≠e->R v H0->X.xe (.ref e) s)
  (z:autoParam ((x == ("__debug__" : Str))=false) Z9._auto_1) (he:autoParam (starEach [a] X.env=(false,eval a X.env)::starEach [] X.env) I9._auto_1):
  PS X (.Raise (some (.Call (.Name x p) [a] [] aO)) none pos) (QT ta R):=by
 intro aa s σ H D I h;refine cX λY Z=>?_;obtain⟨nm,q,N,bs,bm,sn,sub,ab,col,dd,k0,k1,k2,k3,k5,B,U,hp⟩:=c.ob;apply Z;rw[arm_exec_Raise];refine wX (wpAny_standAt ?_);refine q8 (C:=C) (nm:=nm) (q:=q) (N:=N) (bs:=bs) (hdct:=true) (sn:=sn) (sub:=sub) (ab:=ab) (col:=col) (dd:=dd) (k0:=k0) (k1:=k1) (k2:=k2) (k3:=k3) (k5:=k5) (newId:="ValueError.__new__") U.2 m.hd (wX ?_);refine wpAny_Call_Name_kw (fq I y hm ?_ z);have E:PA X [a] (ky ta t9):=av ha aN he;refine PySem.W.callWith_K (h₀:=X.base) I.ok.mod.kin c.kp (aV (E aO aa s σ H (λvs O=>∃v,vs=[v]/\R v O) I ?_) λus s1 ⟨vs,O,f,r,v,ev,q⟩=>⟨f.kIn,?_⟩) he r4
 .exact h
 .subst ev;obtain⟨g,rfl,G⟩:∃g,us=[g]/\L2.aA v g:=by cases r with|cons a b=>cases b with|nil=>exact⟨_,r4,a⟩
  refine aV (MB (Q:=λw H2=>∃e dx M,w=.ref e/\s1.z<=e/\O e=none/\O dx=none/\dx≠e/\H2=dH O e C M dx name v) c hi t F m hb f G λe dx M a1 a2 a3 i=>⟨e,dx,M,r4,a1,a2,a3,i,r4⟩) λu s2 ⟨w,H2,j,l,e,dx,M,J,a1,a2,a3,i,n⟩=>?_;subst J;obtain rfl:u=Value.ref e:=l;refine wX (wpAny_standAt (wY ?_));have L:H2 e=some (XN e C M (some dx)):=by rw[n];exact Jf
  exact⟨e,M,some dx,r4,j.kIn _ _ B,Jd (j.hok e _ L),d aa s2 σ H2 e M dx v O j n (vR f.sz a1) a2 a3 i q⟩
end
open PySem.W (Frag findIn mroIn keepIn isFn)
def fO{a:Addr}{o:HO}(h:H a=some o):upd H a o=H:=by
 funext b;unfold upd;split
 .rename_i z;rw[z,h]
 .rfl
section
variable {X:Cx}{C:Addr}{aa:AO}{σ:L2.St}{H:Hp}{s:Shared}
def Jg(I:Inv X aa σ H s)(h:X.N.Nodup)(hi:X.N[i]? = some n)(hk:X.env.kindOf n=some .local)
  (hm:s.heap.Ns X.env.locals m) (l:h'.Ns X.env.locals λx=>if x=n then v else m x) (hs:Heap.SameBut X.env.locals s.heap h'):Inv X aa (σ.set i none) H { s with heap:=h',toks:=t }:=by
 obtain⟨w,hn,hl⟩:=I.loc;have f:∀x,m x=w x:=λx=>by
  refine cX λW Y=>?_;obtain⟨o,es,K,A,hd,B,a⟩:=hm;obtain⟨o',L,D,O,U,E,e2⟩:=hn;apply Y;rw[A]at O;cases O;rw[hd]at U;cases U;rw[<-a,<-e2]
 have M:∀b o,X.s₀.heap.get? b=some o->b≠X.env.locals:=λb o e=>vS (vQ (vX e) I.ok.above);refine⟨I.ok,I.os,I.bare,⟨λb o e q hb hx=>?_,λb o e q hb hx=>?_,I.base.free,λb o e hx=>?_,I.base.tups,I.base.frzs,I.base.tbls⟩,⟨_,l,λj y g a e2 F=>?_⟩,λy c e=>?_,I.free,I.freeC,λp hp=>?_,λb u e=>?_,by simpa using I.len⟩
 .exact(hs.2 b (M b o e)).trans (I.base.keep b o e q hb hx)
 .obtain⟨sl,z⟩:=I.base.slot b o e q hb hx;exact⟨sl,(hs.2 b (M b o e)).trans z⟩
 .obtain⟨o',z⟩:=I.base.there b o e hx;exact⟨o',(hs.2 b (M b o e)).trans z⟩
 .have hj:i≠j:=λz=>by
   subst z;rw[getElem?_set_self (by rw[I.len];exact(vV hi).1)]at e2;cases e2
  rw[vC hj]at e2;obtain⟨u,r,q⟩:=hl j y g a e2 F;refine⟨u,r,?_⟩;rcases q with⟨k,e⟩|⟨k,c,e,z⟩
  .refine .inl ⟨k,?_⟩;have:y≠n:=λz=>hj (oH h hi (z ▸ a));show(if y=n then v else m y)=some u;rw[if_neg this,f];exact e
  .exact .inr ⟨k,c,e,z.sameBut hs (I.cne y c e)⟩
 .obtain⟨G,z⟩:=I.cell y c e;exact⟨G,z.sameBut hs (I.cne y c e)⟩
 .obtain⟨e,q,ne,J,d⟩:=I.pin p hp;exact⟨(hs.2 p.1 ne).trans e,q,ne,J,d⟩
 .refine(I.hok b u e).stay (λc g hc q=>(hs.2 c ?_).trans q) (λZ q=>q) (λZ Z q=>q) λZ Z Z q=>q;have hf:=I.free;rintro rfl;rcases hc with rfl|hc
  .rw[hf]at e;cases e
  .rw[hf]at hc;cases hc
noncomputable abbrev mk (X:Cx)(A:Around)(E:QV):Cx:={ X with A:=A,calm:=false,xe:=E }
def Jh {A:Around}{E:QV}(I:Inv X aa σ H s)(M:A.frames=X.A.frames):Inv (mk X A E) aa σ H s:=
 ⟨⟨I.ok.mod,I.ok.kind,I.ok.glob,I.ok.blt,I.ok.above,I.ok.inj,I.ok.has,I.ok.cab,(λz=>nomatch z),M.trans I.ok.frames,I.ok.stk,I.ok.exf,I.ok.bs,I.ok.bsz,I.ok.noex,I.ok.exfs,I.ok.funs,I.ok.frf⟩,I.os,I.bare,I.base,I.loc,I.cell,I.free,I.freeC,I.pin,I.hok,I.len⟩
def Ji {A:Around}{E:QV}(ok:X.Ok)(I:Inv (mk X A E) aa σ H s):Inv X aa σ H s:=
 ⟨ok,I.os,I.bare,I.base,I.loc,I.cell,I.free,I.freeC,I.pin,I.hok,I.len⟩
def Aj (H:Hp)(d:Option Addr):Prop:=∀dx,d=some dx->∃fs,H dx=some (.xd fs)
def DD(hok:gy X.prog X.w H s.heap)(he:H e=some (XO e C d))(hd:Aj H d):∃ox od,PySem.W.InstAt s.heap e ox C od/\ox.dict=d:=by
 obtain⟨o,vs,a1,a2,a3,O⟩:=Ow (hok e _ he);cases d with
 |none=>exact⟨o,none,⟨a1,a2,by unfold PySem.W.notCls;rw[O],by rw[a3];trivial⟩,a3⟩
 |some dx=>
  refine cX λG g=>?_;obtain⟨fs,hd⟩:=hd dx r4;obtain⟨mA,⟨od,es,U,b1,z⟩,z⟩:=hok dx _ hd;apply g;exact⟨o,some od,⟨a1,a2,by unfold PySem.W.notCls;rw[O],by rw[a3];exact b1⟩,a3⟩
end
end EX
namespace DL
open PySem PySem.Spec PyProof.Rows L2 EX
open PySem.W (Frag findIn mroIn keepIn isFn)
def tDX (K:Frag)(g:FS)(M:VK):TS:=λE σ H=>jw K g { E with rt:=M } σ H
abbrev JX (X:Cx)(M:VK)(st:Stmt)(g:FS):Prop:=PS X st (tDX X.K g M)
abbrev MC (X:Cx)(M:VK)(st:List Stmt)(g:FS):Prop:=kj X st (tDX X.K g M)
def MD {K:Frag}(h:tD K f σ H Q)(k:∀v H',Q v H'->M v H'):tD K f σ H M:=
 let ⟨B,ρ,d,b,s,r,e,q⟩:=h;⟨B,ρ,d,b,s,r,e,λv H' N x i f=>k v H' (q v H' N x i f)⟩
def RE (E:XK)(C:Addr)(name:Str):VK:=λv H0=>∀e dx M,H0 e=none->H0 dx=none->dx≠e->E (.ref C) (some dx) (upd (dH H0 e C M dx name v) e (XO e C (some dx)))
section
variable {X:Cx}{RT:VK}{st:Stmt}{bu a b body:List Stmt}{g h:FS}{c e bN tg:Expr}{pos p aO:Pos}{C fI:Addr}{name x:Str}
def iX:MC X RT [] b9:=kj.to c9 λE z z=>wm (E:={ E with rt:=RT })
def dC (h1:JX X RT st g)(h2:MC X RT bu h):MC X RT (st::bu) (bZ g h):=kj.to (aq h1 h2) λE z z=>AF 
def d5 (h1:JX X RT st g):MC X RT [st] g:=bf h1
def nq(hc:JT X c M)(ha:MC X RT a g)(hb:MC X RT b h):JX X RT (.If c a b pos) (f6 M g h):=PS.to (fX hc ha hb) λE z z=>G6 
def Ak(M:X.N.Nodup)(he:JE X e f)(hi:autoParam (X.N[i]? = some x) I9._auto_1)(hx:FP X.env.scope x:=by first|exact Or.inl r4|exact Or.inr r4)(hs:autoParam (swapsWith e (some (.Name x p)) pos.line X.env=pure false) I9._auto_1)
  (hf:X.fn x=true\/X.env.scope.names.lookup x=some .local:=by first|exact .inl r4|exact .inr r4):JX X RT (.Assign [.Name x p] e pos) (cI i f):=PS.to (cm M hi hx he hs hf) λE z z=>tY (E:={ E with rt:=RT })
def ME (hp:PassesOwn (model X.prog X.w) X.A X.env X.xe)(hc:X.calm=true)(hi:PI X tg bN (P1 X.K U))(M:PG X tg t)(O:G9 X.K gT t)(hb:MC X RT body g)
  (hs:∀x,foldedSetIterable bN X.env x=pure x:=by intro z;rfl):JX X RT (.For tg bN body [] pos) (f7 U gT g):=PS.to (yI hp hc hi M hb hs) λE z z=>wt  O
def q9:JX X RT st gJ:=λaa s σ H E I q=>by
 refine cX λG g=>?_;obtain⟨z,z,z,z,z,e,z⟩:=q;cases e
def yn(c:Ec X.K C)(hi:findIn X.K (.ref C) "__init__" = some (some (.ref fI)))(M:isFn X.K (.ref fI)=true)
  (F:dI X.prog X.w X.K X.mg X.base oR k fI fd ps (Se C name)) (d:bB (k+1) X.A) (hb:cL X.K fd ps []) (hm:X.mg x=some (.ref C)) (ha:JE X e f)
  (O:∀aa s σ H e i dx v H0,Inv X aa σ H s->H=dH H0 e C i dx name v->X.s₀.z<=e->H0 e=none->H0 dx=none->dx≠e->R v H0->X.xe (.ref e) s)
  (j:autoParam (Gl X x) I9._auto_1) (U:autoParam ((x == ("__debug__" : Str))=false) Z9._auto_1) (he:autoParam (starEach [e] X.env=(false,eval e X.env)::starEach [] X.env) I9._auto_1):
  JX X R (.Raise (some (.Call (.Name x p) [e] [] aO)) none pos) (cq f):=
 PS.to (ym c hi M F d hb j hm ha O U he) λE y y q=>MD (nO  q) λv y z=>⟨v,r4,z⟩
end
inductive KM (K:Frag)(RX:XK->VK)(f:LD->OB)(vs:List V)(H:Hp)(E:XK):Prop|mk (B:Hp)(ds:LD)(d:D)(b:Bool):(au B H/\Tb K B)->IsL K B vs ds->f ds=some (d,b)->Fin K B H d b (RX E)->KM K RX f vs H E
def Xw (K:Frag)(RX:XK->VK)(f:LD->OB):Sp:=λvs H z E=>KM K RX f vs H E
@[simp] noncomputable def fG (g:FS)(n k:Nat):LD->OB:=λds=>if ds.length=n then
 match g (ds.map (λd=>some (d,false))++List.replicate k none) with
 |some (.rt d b)=>some (d,b)
 |_=>none
 else none
section
variable {P:Program}{w:World}{K:Frag}{mg:SV}{base:Heap}
set_option tactic.hygienic true in
def YZ {x qual:Str}{st:Stmt}{f:Addr}{fd:FuncData}{N ps:LS}{k:Nat}{g:FS}{RX:XK->VK}(F:DS K x qual st f fd)(S:FnScope N ps (aj st))
  (hb:∀(bD:Value)(A:Around)outer(s:Shared)(H:Hp)(E:XK),bB k (A.deeper (envOfC qual (aj st) s.z f bD))->MC (bK (fj P w) P w K mg base N qual (aj st) f bD A outer s H E) (RX E) (aK st) g):
  dI P w K mg base (fj P w) (k+1) f fd ps (Xw K RX (fG g ps.length (N.length - ps.length))):=by
 have len:∀vs H Q E,Xw K RX (fG g ps.length (N.length - ps.length)) vs H Q E->vs.length=ps.length:=λvs H Q E h=>by
  refine cX λG W=>?_;obtain⟨B,ds,d,b,O,i,e,q⟩:=h;apply W;unfold fG at e;split at e
  .rename_i hl;rw[i.length];exact hl
  .cases e
 obtain⟨oc,od,kV,doc,pm,an,bD,ct,gZ,rfl,lk,U⟩:=F.ex;refine m7 lk U S len λA outer s H vs Q E c h=>⟨_,hb bD A outer s H E c,?_⟩;have M:=len vs H Q E h;refine cX λG W=>?_;obtain⟨B,ds,d,b,O,i,e,q⟩:=h;apply W;unfold fG at e;rw[if_pos (by rw[<-i.length];exact M)]at e;have a:=pf (N:=N) O.1 O.2 i;rw[M]at a;split at e
 .rename_i d' o j;cases e
  exact⟨B,H,_,_,⟨B,a⟩,j,λv H' N' l m n=>q v H' N' l m n⟩
 .cases e
def qA:
  ∀aa s σ H e O dx v H0,Inv (bK (fj P w) P w K mg base N qual scope f M A outer s₀ H₀ E) aa σ H s->H=dH H0 e C O dx name v->(bK (fj P w) P w K mg base N qual scope f M A outer s₀ H₀ E).s₀.z<=e->H0 e=none->H0 dx=none->dx≠e->RE E C name v H0 ->
   (bK (fj P w) P w K mg base N qual scope f M A outer s₀ H₀ E).xe (.ref e) s:=λaa s σ H e O dx v H0 I U hs h1 h2 h3 q=>by
 subst U;exact Ox I Jf (q e dx O h1 h2 h3)
def VX:PassesOwn (model P w) (A.deeper (envOfC qual scope s₀.z f M)) (envOfC qual scope s₀.z f M) (bK (fj P w) P w K mg base N qual scope f M A outer s₀ H₀ E).xe:=PassesOwn.leaving
end
end DL
namespace EX
open PySem PySem.Spec PyProof.Rows L2
open PySem.W (Frag findIn mroIn keepIn isFn)
section
variable {X:Cx}{C D:Addr}{aa:AO}{σ:L2.St}{H:Hp}{s:Shared}
structure Ei (K:Frag)(C:Addr):Prop where
 ga:findIn K (.ref C) "__getattribute__" = some (some (.builtin "BaseException.__getattribute__"))
 gk:findIn K (.ref C) "__getattr__" = some none
 be:mroIn K C (.type "BaseException")=some true
 hd:PySem.W.hasDictIn K C=true
 cl:findIn K (.ref C) "__class__" = some (some (.builtin "object.__class__"))
 cg:PySem.W.specialIn K (.builtin "object.__class__") "__get__" = some (some (.builtin "getset_descriptor.__get__"))
 ct:PySem.W.takesIn K (.builtin "object.__class__")=some true
 ob:mroIn K C (.type "object")=some true
inductive Ka (K:Frag)(C:Addr)(vs:List V)(H:Hp)(Q:VK):Prop|mk e d M O b:vs=[.ref e,M]->H e=some (XO e C d)->Aj H d->(∀u,L2.aA M u->u=O)->PySem.W.kitOne K (.ref C) O=some b->Q (.bl b) H->Ka K C vs H Q
def rIx (K:Frag)(C:Addr):List V->Hp->VK->Prop:=λvs H Q=>Ka K C vs H Q
def VY (c:Ei X.K C):aY X (.builtin "isinstance") (rIx X.K C):=by
 intro aa s σ H vs us Q I r ⟨e,d,cv,cu,b,ev,he,hd,hu,hk,q⟩;subst ev;obtain⟨M,O,rfl,U,f⟩:∃M O,us=[M,O]/\L2.aA (.ref e) M/\L2.aA cv O:=by
  cases r with|cons a b=>cases b with|cons b c=>cases c with|nil=>exact⟨_,_,r4,a,b⟩
 obtain rfl:M=Value.ref e:=U;obtain rfl:=hu _ f;obtain⟨ox,od,g,y⟩:=DD I.hok he hd;exact kia_one (Ja c.ga c.gk c.be c.hd c.cl c.cg c.ct c.ob) I.kIn ⟨ox,od,g⟩ hk (λz=>nomatch z) λtk=>⟨.bl b,H,I.tok tk,r4,q⟩
inductive Kb (C:Addr)(name:Str)(Q:VK)(x:V)(M:Hp):Prop|mk e dx v:x=.ref e->M e=some (XO e C (some dx))->M dx=some (.xd [(name,v)])->Q v M->Kb C name Q x M
def tXa (C:Addr)(name:Str)(ta:TE):TE:=λσ H Q=>ta σ H λx M=>Kb C name Q x M
def VZ(c:Ei X.K C)(U:findIn X.K (.ref C) name=some none)(he:PE X e ta)(hb:autoParam (attributeBase e name X.env (eval e X.env)=eval e X.env) I9._auto_1):PE X (.Attribute e name O) (tXa C name ta):=by
 intro aa s σ H Q I h;refine AA hb (aV (he aa s σ H _ I h) λu s1 ⟨x,b,M,d,a,dx,v,ex,h1,h2,q⟩=>?_);subst ex;obtain rfl:u=Value.ref a:=d;refine cX λG k=>?_;obtain⟨o,vs,a1,a2,a3,f⟩:=Ow (M.hok a _ h1);obtain⟨mA,ns,lG⟩:=M.hok dx _ h2;obtain⟨od,b1,b2⟩:=rf ns;apply k;obtain⟨u',g,ru⟩:∃u',mA name=some u'/\L2.aA v u':=by
  have:=lG name;simp only[List.lookup,beq_self_eq_true]at this;cases q:mA name with
  |none=>rw[q]at this;exact this.elim
  |some u'=>rw[q]at this;exact⟨u',r4,this⟩
 refine M8 M.kIn ⟨a1,a2,by unfold PySem.W.notCls;rw[f],by rw[a3];exact b1⟩ c.ga c.gk c.be (PySem.W.findObj_own c.hd U r4 (by rw[b2,g])) ?_ ⟨v,b,M.tok _,ru,q⟩;cases v<;>first|(cases ru;rfl)|(obtain⟨y,z⟩:=ru;cases z;rfl)
end
end EX
namespace DL
open PySem PySem.Spec PyProof.Rows L2 EX
open PySem.W (Frag findIn mroIn keepIn isFn)
def Fm(h1:H e=none)(h2:H dx=none):au H (upd (dH H e C M dx name v) e u):=λb o q=>by
 have n1:b≠e:=λz=>by rw[z,h1]at q;cases q
 rw[af n1,QR n1 λz=>by rw[z,h2]at q;cases q];exact q
def MF(n:dx≠e):upd (dH H e C M dx name v) e u dx=some (.xd [(name,v)]):=by rw[af n,QQ n]
structure FnX (P:Program)(w:World)(K:Frag)(mg:Str->Option Value)(base:Heap)(RX:XK->VK)(k:Nat)(x:Str)(f:List D->OB):Prop where
 ex:∃(ad:Addr)(fd:FuncData)(ps:List Str),dI P w K mg base (fj P w) k ad fd ps (Xw K RX f)/\mg x=some (.ref ad)/\keepIn K (.ref ad)=true/\cL K fd ps []
structure FnS (P:Program)(w:World)(K:Frag)(mg:Str->Option Value)(base:Heap)(k:Nat)(x:Str)(sp:Sp):Prop where
 ex:∃(ad:Addr)(fd:FuncData)(ps:List Str),dI P w K mg base oR k ad fd ps sp/\mg x=some (.ref ad)/\keepIn K (.ref ad)=true/\cL K fd ps []
structure Exc (P:Program)(w:World)(K:Frag)(mg:Str->Option Value)(base:Heap)(x:Str)(C:Addr)(name:Str):Prop where
 nm:mg x=some (.ref C)
 ec:Ec K C
 ei:Ei K C
 na:findIn K (.ref C) name=some none
 init:∃fI fd ps,findIn K (.ref C) "__init__" = some (some (.ref fI))/\isFn K (.ref fI)=true/\dI P w K mg base oR 1 fI fd ps (Se C name)/\cL K fd ps []
section
variable {P:Program}{w:World}{K:Frag}{mg:SV}{base:Heap}
def nD.fqX{st:Stmt}(F:nD K x st)(B:∃h,K.In h/\h.Ns mainGlobals mg)(g:FS)(N:LS)(n:Nat)
  (hb:∀ {f:Addr}{bD:Value}{A:Around}{outer:List PySem.Env}{s:Shared}{H:Hp}{E:XK},N.Nodup->bB k (A.deeper (envOfC x (aj st) s.z f bD))->(A.deeper (envOfC x (aj st) s.z f bD)).units+40<cLine ->
   MC (bK (fj P w) P w K mg base N x (aj st) f bD A outer s H E) (RX E) (aK st) g)
  (S:FnScope N (N.take n) (aj st):=by refine⟨r4,r4,r4,?_,r4,?_,?_⟩<;>decide +kernel)
  (M:∀(kV doc pm:Value)an bD ct(us:LU),us.length=(N.take n).length->bindArgs (fnOf x x (cf st) (aK st) (aj st) .none kV doc pm an bD ct) ⟨us,[]⟩=pure ((N.take n).zip us):=by
   exact λy y y y y y=>HW _ _ (by(repeat intro);rfl))
  (e:autoParam (fG g (N.take n).length (N.length - (N.take n).length)=U) I9._auto_1):FnX P w K mg base RX (k+1) x U:=by
 obtain⟨y,X,G⟩:=B;obtain⟨f,fd,O,a⟩:=F;subst e;exact⟨f,fd,_,YZ O S λbD A outer s H E b=>hb S.nd b (gg b),mg_of X G a,O.kp,O.binds M⟩
def nD.fqS{st:Stmt}(F:nD K x st)(B:∃h,K.In h/\h.Ns mainGlobals mg)(N:LS)n(len:∀vs H Q E,sp vs H Q E->vs.length=(N.take n).length)
  (hb:∀ {f:Addr}{bD:Value}{A:Around}{outer:List PySem.Env}{s:Shared}{H:Hp}{E:XK}{vs:LV}{Q:VK},N.Nodup->bB k (A.deeper (envOfC x (aj st) s.z f bD))->sp vs H Q E ->
   ∃t,kj (bK oR P w K mg base N x (aj st) f bD A outer s H E) (aK st) t/\t { nx:=λy H'=>Q .non H',rt:=Q } (L2.dD N vs) H)
  (S:FnScope N (N.take n) (aj st):=by refine⟨r4,r4,r4,?_,r4,?_,?_⟩<;>decide +kernel)
  (M:∀(kV doc pm)an bD ct(us:LU),us.length=(N.take n).length->bindArgs (fnOf x x (cf st) (aK st) (aj st) .none kV doc pm an bD ct) ⟨us,[]⟩=pure ((N.take n).zip us):=by
   exact λy y y y y y=>HW _ _ (by(repeat intro);rfl)):FnS P w K mg base (k+1) x sp:=by
 obtain⟨y,X,G⟩:=B;obtain⟨f,fd,O,a⟩:=F;obtain⟨oc,od,kV,doc,pm,an,bD,ct,gZ,rfl,lk,U⟩:=O.ex;exact⟨f,_,_,m7 lk U S len λA outer s H vs Q E c d=>hb S.nd c d,mg_of X G a,O.kp,O.binds M⟩
end
section
variable {X:Cx}{C D:Addr}{x cx:Str}{p p1 p2 pos:Pos}{i:Nat}{b:Bool}
inductive HX (C:Addr)(i:Nat)(σ:L2.St)(H:Hp):Prop|mk e d:σ[i]? = some (some (.ref e))->H e=some (XO e C d)->Aj H d->HX C i σ H
def Za (C:Addr)(i:Nat)(b:Bool):TE:=λσ H Q=>HX C i σ H/\Q (.bl b) H
def fP {y:Str}{u:Value}{v:V}(c:Ei X.K C)(hn:X.mg "isinstance" = none)(hi:X.N[i]? = some y)(U:Kf X.env.scope y)(hp:PE X (.Name cx p2) (tC v))(hu:∀u',L2.aA v u'->u'=u)(hk:PySem.W.kitOne X.K (.ref C) u=some b)
  (a:autoParam (Gl X "isinstance") I9._auto_1) (hd:autoParam ((y == ("__debug__" : Str))=false) Z9._auto_1) (M:autoParam ((y == ("__classdict__" : Str))=false) Z9._auto_1)
  (he:autoParam (starEach [.Name y p1,.Name cx p2] X.env=(false,eval (.Name y p1) X.env)::starEach [.Name cx p2] X.env) I9._auto_1) (O:autoParam (starEach [.Name cx p2] X.env=(false,eval (.Name cx p2) X.env)::starEach [] X.env) I9._auto_1)
  (hpl:autoParam ((backTo pos (starEach [.Name cx p2] X.env)).any (·.1)=false) I9._auto_1):
  PE X (.Call (.Name "isinstance" p) [.Name y p1,.Name cx p2] [] pos) (Za C i b):=
 PE.to (hV (VY c) a hn r4 (av (aF hi U hd M) (av hp aN O) he) (he:=he) (hpl:=hpl)) λσ H Q ⟨⟨e,d,h1,h2,h3⟩,q⟩=>⟨.ref e,h1,e,d,v,u,b,r4,h2,h3,hu,hk,q⟩
end
open PySem.W (Frag findIn mroIn keepIn isFn)
section
variable {P:Program}{w:World}{K:Frag}{mg:SV}{base:Heap}
def MG {qual:Str}{st:Stmt}{f C:Addr}{fd:FuncData}{O p2 U a:Pos}(F:DS K "__init__" qual st f fd)(c:Ec K C)(M:findIn K (.ref C) "at" = some none)
  (hb:aK st=[.Assign [.Attribute (.Name "self" O) "at" p2] (.Name "at" U) a]) (S:FnScope ["self","at"] ["self","at"] (aj st))
  (h1:(aj st).names.lookup ("self" : Str)=some .local) (h2:(aj st).names.lookup ("at" : Str)=some .local)
  (hs:∀(env:PySem.Env),swapsWith (.Name "at" U) (some (.Attribute (.Name "self" O) "at" p2)) a.line env=pure false):dI P w K mg base oR 1 f fd ["self","at"] (Se C "at"):=by
 refine F.ok (k:=0) S (λvs H Q E ⟨e,b,v,ev,_,_⟩=>by rw[ev];rfl) λbD A outer s H vs Q E d h=>⟨VW C (kq 0) (kq 1) "at",?_,?_⟩
 .rw[hb];exact bf (QS c M (aF (i:=0) r4 (.inl h1)) (aF (i:=1) r4 (.inl h2)) (hs _))
 .obtain⟨e,b,v,rfl,he,q⟩:=h;exact⟨v,r4,.ref e,r4,e,b,r4,he,λdx hx=>q dx hx⟩
structure Raw (K:Frag)(x:Str)(st:Stmt)(C:Addr):Prop where
 nm:PySem.W.nsIn K mainGlobals x=some (some (.ref C))
 ec:Ec K C
 ei:Ei K C
 na:findIn K (.ref C) "at" = some none
 init:∃fI fd qual,findIn K (.ref C) "__init__" = some (some (.ref fI))/\isFn K (.ref fI)=true/\DS K "__init__" qual st fI fd
def Raw.exc{st:Stmt}{C:Addr}{O p2 U a:Pos}(R:Raw K x st C)(B:∃h,K.In h/\h.Ns mainGlobals mg)
  (hb:autoParam (aK st=[.Assign [.Attribute (.Name "self" O) "at" p2] (.Name "at" U) a]) I9._auto_1) (S:FnScope ["self","at"] ["self","at"] (aj st):=by refine⟨r4,r4,r4,?_,r4,?_,?_⟩<;>decide +kernel)
  (h1:autoParam ((aj st).names.lookup ("self" : Str)=some .local) I9._auto_1) (h2:autoParam ((aj st).names.lookup ("at" : Str)=some .local) I9._auto_1)
  (hs:∀env,swapsWith (.Name "at" U) (some (.Attribute (.Name "self" O) "at" p2)) a.line env=pure false:=by intro z;rfl)
  (M:∀(qual:Str)(kV doc pm:Value)an(bD ct:Value)(us:LU),us.length=2->bindArgs (fnOf "__init__" qual (cf st) (aK st) (aj st) .none kV doc pm an bD ct) ⟨us,[]⟩=pure ((["self","at"]:LS).zip us):=by
   exact λz z z z z z z us hl=>match us,hl with|[_,_],_=>r4):Exc P w K mg base x C "at":=by
 refine cX λg k=>?_;obtain⟨z,X,G⟩:=B;obtain⟨fI,fd,qual,h3,h4,F⟩:=R.init;apply k;exact⟨mg_of X G R.nm,R.ec,R.ei,R.na,fI,fd,["self","at"],h3,h4,MG F R.ec R.na hb S h1 h2 hs,F.binds (M qual)⟩
end
section
variable {X:Cx}{dp:Pos}
end
open PySem.W (Frag findIn mroIn keepIn isFn)
set_option tactic.hygienic true in
def Jj {K:Frag}(q:PySem.W.excIn K S EX.Ah n=true):PySem.W.tailIn K EX.Ah (.ref S::EX.Ah)=true:=by
 unfold PySem.W.excIn at q;split at q
 .rename_i dd O sl M;generalize O.mro=m0 at q;generalize sl.toList=s0 at q;rcases m0 with _|⟨v,bm⟩<;>try (cases q;done)
  cases v<;>try (cases q;done)
  rcases s0 with _|⟨_,_|⟨_,_|⟨_,_|⟨_,_|⟨x,r⟩⟩⟩⟩⟩<;>try (cases q;done)
  rcases x with _|x<;>try (cases q;done)
  cases x<;>try (cases q;done)
  rcases r with _|⟨_,_|_⟩<;>try (cases q;done)
  have h0:PySem.W.tailIn K EX.Ah EX.Ah=true:=by rfl
  simp only[vD]at q;unfold PySem.W.tailIn;simp only[M];rw[q.1.2,q.2];rfl
 .cases q
def raw_mk {K:Frag}{x nm q qual:Str}{st:Stmt}{C N S fI:Addr}{bs:LU}{sn:LS}{sub:LU}{ab:Bool}{col:Option Bool}{dd:Option Addr}{k0 k1 k2 k3 k5:Option Value}{oc kV doc pm bD ct:Value}{od an:Option Addr}{gZ:Array (Option Value)}
  (a0:PySem.W.nsIn K mainGlobals x=some (some (.ref C))) (a1:K.lookup C=some (excClassObj nm q C N bs (.ref S::EX.Ah) true sn sub ab col dd k0 k1 k2 k3 k5 "ValueError.__new__")) (a2:keepIn K (.ref C)=true)
  (a3:findIn K (.ref C) "__setattr__" = some (some (.builtin "object.__setattr__"))) (M:mroIn K C (.type "object")=some true)
  (O:findIn K (.ref C) "__getattribute__" = some (some (.builtin "BaseException.__getattribute__"))) (U:findIn K (.ref C) "__getattr__" = some none) (a:mroIn K C (.type "BaseException")=some true) (b:PySem.W.hasDictIn K C=true)
  (c:findIn K (.ref C) "__class__" = some (some (.builtin "object.__class__"))) (d:PySem.W.specialIn K (.builtin "object.__class__") "__get__" = some (some (.builtin "getset_descriptor.__get__"))) (b1:PySem.W.takesIn K (.builtin "object.__class__")=some true)
  (b2:findIn K (.ref C) "at" = some none) (e:findIn K (.ref C) "__init__" = some (some (.ref fI))) (f:isFn K (.ref fI)=true)
  (g:K.lookup fI=some ⟨oc,od,.func (fnOf "__init__" qual (cf st) (aK st) (aj st) .none kV doc pm an bD ct),gZ⟩) (h:PySem.W.codeIn K bD qual=true) (i:keepIn K (.ref fI)=true) (j:PySem.W.excIn K S [.type "ValueError",.type "Exception",.type "BaseException",.type "object"] "ValueError.__new__" = true):Raw K x st C:=
 ⟨a0,⟨⟨_,_,_,_,_,_,_,_,_,_,_,_,_,_,_,a1,⟨Jj j,r4⟩,λself=>by rw[refuseLoop_ref];exact PySem.F.store_ValueError.passes self⟩,a2,a3,M⟩,⟨O,U,a,b,c,d,b1,M⟩,b2,fI,_,qual,e,f,tQ g h i⟩
section
variable {K:Frag}{C D:Addr}
def QU(M:PySem.W.isClsIn K D=true)(O:PySem.W.typeIn K (.ref D)=some (.type "type"))(U:PySem.W.subIn K t (.ref D)=some b):PySem.W.kitCls K t (.ref D)=some b:=by
 have M:(PySem.W.clsIn K D).isSome=true:=M;show(if((PySem.W.clsIn K D).isSome && PySem.W.typeIn K _ == some _)=true then PySem.W.subIn K t (.ref D)else none)=_;rw[M,O];exact U
def Jk (M:PySem.W.isClsIn K D=true)(O:PySem.W.typeIn K (.ref D)=some (.type "type"))(U:PySem.W.subIn K (.ref C) (.ref D)=some true):PySem.W.kitOne K (.ref C) (.ref D)=some true:=by
 unfold PySem.W.kitOne;split
 .rfl
 .exact QU M O U
def Fo (O:PySem.W.subIn K (.ref C) (.ref C)=some true)(U:PySem.W.isClsIn K D=true)(a:PySem.W.typeIn K (.ref D)=some (.type "type"))(M:PySem.W.subIn K (.ref C) (.ref D)=some false):PySem.W.kitOne K (.ref C) (.ref D)=some false:=by
 unfold PySem.W.kitOne;split
 .rename_i h;rw[Value.ref.inj (beq_iff_eq.mp h)]at O M;rw[O]at M;cases M
 .exact QU U a M
def lB (M:PySem.W.isClsIn K D=true)(O:PySem.W.typeIn K (.ref D)=some (.type "type"))(U:PySem.W.subIn K (.ref C) (.ref D)=some true)(a:PySem.W.subIn K (.ref D) (.type "BaseException")=some true):PySem.W.exmOne K (.ref C) (.ref D)=some true:=by
 unfold PySem.W.exmOne;rw[a];exact QU M O U
def vi (c:PySem.W.subIn K (.ref C) (.type "ValueError")=some true):PySem.W.kitOne K (.ref C) (.type "ValueError")=some true:=by
 show(if PySem.W.kitMeta "ValueError" = true then PySem.W.subIn K (.ref C) (.type _)else none)=some _;exact c
end
end DL
namespace EX
open PySem PySem.Spec PyProof.Rows L2
open PySem.W (Frag findIn mroIn keepIn isFn)
section
variable {P:Program}{w:World}{K:Frag}{mg:SV}{base:Heap}{N:LS}{qual:Str}{scope:Scope}{f:Addr}{cd:Value}{A:Around}{outer:List Env}{s₀:Shared}{H₀:Hp}{E:XK}
def o6:dq (fj P w) (bK (fj P w) P w K mg base N qual scope f cd A outer s₀ H₀ E) E:=by
 intro aa σ H s ev s' I h;obtain⟨e,C,dx,T,H',rfl,os,bare,un,hok,U,he,m,g,q⟩:=h;have J:=I.call' (ch:=[]) os un hok bare λy z=>nomatch z;have i:∀b,s.z<=b->s₀.z<=b/\b≠(bK (fj P w) P w K mg base N qual scope f cd A outer s₀ H₀ E).env.locals/\(∀x c,(bK (fj P w) P w K mg base N qual scope f cd A outer s₀ H₀ E).env.cells.lookup x=some c->c≠b)/\∀p∈(bK (fj P w) P w K mg base N qual scope f cd A outer s₀ H₀ E).pn++aa,p.1≠b:=λb hb=>
  ⟨vR I.sz hb,ne_of_gt (vQ I.lt hb),λx c e z=>by obtain⟨v,o,n,y⟩:=I.cell x c e;exact absurd (vX n) (by rw[z];exact Nat.not_lt.mpr hb),λp hp z=>absurd (vX (I.pin p hp).1) (by rw[z];exact Nat.not_lt.mpr hb)⟩
 have j:s.z<=s'.z:=let ⟨_,_,a,_⟩:=U.tb;vR g (le_of_lt (vX a));show wpAny _ _ (leaving _ (.ref e)) _ _ s';unfold leaving;refine wX (jr (base:=base) (outer:=outer) (L:=s₀.z) J.ok.frames J.stack r4 U (by simp[rawInt]) λh1 d k O r=>?_);have J1:=by
  have:=di (u:=XO e C dx) (Ts:=[T]) (h':=h1) J he r (λb hb=>by rw[uU hb];exact⟨m,i T g⟩) k.xo;rwa [fO he]at this
 have M:H' d=none:=hok.fresh O;refine oF.land (s:={ s' with heap:=h1 }) (fr:=s₀.z::lI outer) k λh2 l t=>?_;have J2:=by
  have:=di (u:=XO e C dx) (Ts:=[d]) (h':=h2) J1 he (t.more λb y y z=>mZ _ z) (λb hb=>by rw[uU hb];exact⟨M,i d (vR j O)⟩) l.xo;rwa [fO he]at this
 exact⟨e,C,dx,d,H',r4,J2.os,J2.bare,J2.base,J2.hok,l,he,M,vR (vR I.sz j) O,q⟩
def Fp {aa:AO}{σ:L2.St}{H':Hp}{s':Shared}{e C T:Addr}{dx:Option Addr}{fl:Value}(J:Inv (bK (fj P w) P w K mg base N qual scope f cd A outer s₀ H₀ E) aa σ H' s')(F:oF s'.heap e T (.ref C) dx fl)(he:H' e=some (XO e C dx))(g:H' T=none)(h:s₀.z<=T)
  (j:T≠(bK (fj P w) P w K mg base N qual scope f cd A outer s₀ H₀ E).env.locals/\(∀x c,(bK (fj P w) P w K mg base N qual scope f cd A outer s₀ H₀ E).env.cells.lookup x=some c->c≠T)/\∀p∈(bK (fj P w) P w K mg base N qual scope f cd A outer s₀ H₀ E).pn++aa,p.1≠T) (q:E (.ref C) dx H'):
  (bK (fj P w) P w K mg base N qual scope f cd A outer s₀ H₀ E).xe (.ref e) s':=by
 have M:∀b,s'.z<=b->s₀.z<=b/\b≠(bK (fj P w) P w K mg base N qual scope f cd A outer s₀ H₀ E).env.locals/\(∀x c,(bK (fj P w) P w K mg base N qual scope f cd A outer s₀ H₀ E).env.cells.lookup x=some c->c≠b)/\∀p∈(bK (fj P w) P w K mg base N qual scope f cd A outer s₀ H₀ E).pn++aa,p.1≠b:=λb hb=>
  ⟨vR J.sz hb,ne_of_gt (vQ J.lt hb),λx c e z=>by obtain⟨v,o,m,y⟩:=J.cell x c e;exact absurd (vX m) (by rw[z];exact Nat.not_lt.mpr hb),λp hp z=>absurd (vX (J.pin p hp).1) (by rw[z];exact Nat.not_lt.mpr hb)⟩
 show wpAny _ _ (leaving _ (.ref e)) _ _ s';unfold leaving;by_cases k:(fl == rawInt s₀.z)=true
 .refine wX (Fl (L:=s₀.z) r4 F k ?_);refine oF.land (fr:=s₀.z::lI outer) F λh2 a i=>?_;have J2:=by
   have:=di (u:=XO e C dx) (Ts:=[T]) (h':=h2) J he (i.more λb y y z=>mZ _ z) (λb hb=>by rw[uU hb];exact⟨g,h,j⟩) a.xo;rwa [fO he]at this
  exact⟨e,C,dx,T,H',r4,J2.os,J2.bare,J2.base,J2.hok,a,he,g,h,q⟩
 .refine wX (jr (base:=base) (outer:=outer) (L:=s₀.z) J.ok.frames J.stack r4 F k λh1 d l U n=>?_);have J1:=by
   have:=di (u:=XO e C dx) (Ts:=[T]) (h':=h1) J he n (λb hb=>by rw[uU hb];exact⟨g,h,j⟩) l.xo;rwa [fO he]at this
  have O:H' d=none:=J.hok.fresh U;refine oF.land (s:={ s' with heap:=h1 }) (fr:=s₀.z::lI outer) l λh2 a i=>?_;have J2:=by
   have:=di (u:=XO e C dx) (Ts:=[d]) (h':=h2) J1 he (i.more λb y y z=>mZ _ z) (λb hb=>by rw[uU hb];exact⟨O,M d U⟩) a.xo;rwa [fO he]at this
  exact⟨e,C,dx,d,H',r4,J2.os,J2.bare,J2.base,J2.hok,a,he,O,(M d U).1,q⟩
end
end EX
namespace DL
open PySem PySem.Spec PyProof.Rows L2 EX
open PySem.W (Frag findIn mroIn keepIn isFn)
section
variable {X:Cx}{E:XK}{RX:XK->VK}{x:Str}{k:Nat}{R:LD->OB}{e:Expr}{es:QD}{fa:FA}{p pos aO:Pos}
def yo (F:FnX X.prog X.w X.K X.mg X.base RX k x R)(U:bB k X.A)(hx:dq (fj X.prog X.w) X E)(ha:JA X (e::es) fa)(a:autoParam (Gl X x) I9._auto_1)
  (M:autoParam ((x == "__debug__")=false) Z9._auto_1) (he:autoParam (starEach (e::es) X.env=(false,eval e X.env)::starEach es X.env) I9._auto_1) (hpl:autoParam ((backTo aO (starEach es X.env)).any (·.1)=false) I9._auto_1):
  PE X (.Call (.Name x p) (e::es) [] aO) (λσ H z=>tD X.K (fA R fa) σ H (RX E)):=by
 refine cX λG g=>?_;obtain⟨ad,fd,ps,c,hm,hk,hb⟩:=F.ex;apply g;refine PE.to (fw c U a hm hk hb .nil hx ha M he hpl) λσ H Q q=>cX λG g=>?_;obtain⟨B,ρ,d,b,s,r,e,q⟩:=q;refine eX e λds ex e=>?_;apply g;exact⟨B,ρ,ds,s,r,ex,λvs f N1 O i1=>by
  rw[uR];exact⟨N1,ds,d,b,⟨O.nh,r.tb.mono O.bn⟩,i1,e,q.into O⟩⟩
end
end DL
namespace EX
open PySem PySem.Spec PyProof.Rows L2
open PySem.W (Frag findIn mroIn keepIn isFn)
section
variable {X:Cx}{C D:Addr}{aa:AO}{σ:L2.St}{H:Hp}{s:Shared}
def MH(G:X.stack=X.env::X.outer)(V:X.env.frame=some X.env.locals)(Y:X.N.Nodup)
  (hj:X.N[j]? = some n) (hn:X.env.kindOf n=some .local) (P:∀A' E',kj (mk X A' E') (M::bs) tb) (hg:Gl X t) (hm:X.mg t=some (.ref D)) (hx:PySem.W.exmOne X.K (.ref C) (.ref D)=some true)
  (I:Inv X aa σ H s) (h:fj X.prog X.w X.stack H s E ev s')
  (hE:∀c d H',E c d H'->c=.ref C/\Aj H' d/\∀e,H' e=some (XO e C d)->tb { nx:=λg H2=>F.nx (g.set j none) H2,rt:=λ_ _=>False } (σ.set j (some (.ref e))) H')
  (oC:autoParam ((t == ("__debug__" : Str))=false) Z9._auto_1):
  wq X (noteFrame ev X.env) (λ_ i=>wq X (setFlight ev none) (λ_ k=>wq X (handleBy ev X.env [.ExceptHandler (some (.Name t p1)) (some n) (M::bs) hp]) (SP X aa F) X.xe k) X.xe i) X.xe s':=by
 obtain⟨e,C',dx,T,H',rfl,os,bare,un,hok,Z,he,hT,sT,q⟩:=h;obtain⟨c1,hd,qq⟩:=hE _ _ _ q;cases c1
 have J:Inv X aa σ H' s':=I.call' (ch:=[]) os un hok bare λ_ z=>nomatch z;have Kr:∀b,s.z<=b->X.s₀.z<=b/\b≠X.env.locals/\(∀x c,X.env.cells.lookup x=some c->c≠b)/\∀p∈X.pn++aa,p.1≠b:=λb hb=>
  ⟨vR I.sz hb,ne_of_gt (vQ I.lt hb),λx c e z=>by obtain⟨v,o,ho,_⟩:=I.cell x c e;exact absurd (vX ho) (by rw[z];exact Nat.not_lt.mpr hb),λp hp z=>absurd (vX (I.pin p hp).1) (by rw[z];exact Nat.not_lt.mpr hb)⟩
 have Q:lI X.stack=X.env.locals::X.outer.filterMap (·.frame):=by rw[G];unfold lI;rw[List.filterMap_cons,V]
 have Xh:s.z<=s'.z:=let ⟨_,_,a,_⟩:=Z.tb;vR sT (le_of_lt (vX a));refine jr (base:=X.base) (outer:=X.outer) (L:=X.env.locals) (by rw[<-G];exact J.ok.frames) (by rw[<-G];exact J.stack) V Z (by simp[rawInt]) λh1 y F1 l K1=>?_;have J1:Inv X aa σ H' { s' with heap:=h1 }:=by
  have:=di (u:=XO e C dx) (Ts:=[T]) (h':=h1) J he (by rw[Q];exact K1) (λb hb=>by rw[uU hb];exact⟨hT,Kr T sT⟩) F1.xo;rwa [fO he]at this
 have O:H' y=none:=hok.fresh l;have U:=Kr y (vR Xh l);refine oF.land (s:={ s' with heap:=h1 }) (fr:=lI X.stack) F1 λh2 F2 K2=>?_;have J2:Inv X aa σ H' { s' with heap:=h2 }:=by
  have:=di (u:=XO e C dx) (Ts:=[y]) (h':=h2) J1 he (K2.more λb _ _ z=>mZ _ z) (λb hb=>by rw[uU hb];exact⟨O,U⟩) F2.xo;rwa [fO he]at this
 refine wpAny_handleBy_cons (codeAny_handlers_test ?_) (λz=>nomatch z);refine fq (X:=mk X (X.A.mark (some (.ref e))) X.xe) (Jh J2 r4) hg hm ?_ oC;obtain⟨ox,od,IA,hdx⟩:=DD (s:={ s' with heap:=h2 }) J2.hok he hd;refine(PySem.W.exm_one J2.kIn IA.type hx).here ?_;show codeAny _ _ _ _ _;refine codeAny_handlers_suite_as ?_;refine oF.land (s:={ s' with heap:=h2 }) (fr:=lI X.stack) F2 λh3 F3 K3=>?_;have J3:Inv X aa σ H' { s' with heap:=h3 }:=by
  have:=di (u:=XO e C dx) (Ts:=[y]) (h':=h3) J2 he (K3.more λb _ _ z=>mZ _ z) (λb hb=>by rw[uU hb];exact⟨O,U⟩) F3.xo;rwa [fO he]at this
 refine oJ J3 Y hj (.inl hn) (show L2.aA (.ref e) (.ref e)from r4) (λs4 J4=>?_) (.inr hn);refine wpAny_mono (P (X.A.mark (some (.ref e))) _ aa s4 _ H' { nx:=λg H2=>F.nx (g.set j none) H2,rt:=λ_ _=>False } (Jh J4 r4) (qq e he)) (λf s5 h5=>?_) λ_ _ z=>z;cases f with
 |next=>
  obtain⟨σ5,H5,B,q5⟩:=h5;have B:=Ji I.ok B;obtain⟨m,r,_⟩:=id B.loc;refine wpAny_nameGoes_keeps hn r (by rw[I.ok.kind];rfl) λh6 v R S=>?_;exact⟨_,_,Jg B Y hj hn r R S,q5⟩
 |ret u=>obtain⟨_,_,_,_,_,z⟩:=h5;exact z.elim
 |brk=>obtain⟨_,_,_,z⟩:=h5;exact z.elim
 |cont=>obtain⟨_,_,_,z⟩:=h5;exact z.elim
variable {fa:Addr}
end
open PySem.W (Frag findIn mroIn keepIn isFn)
def Jl {K:Frag}
  (M:K.lookup C=some (excClassObj nm q C N bs bm true sn sub ab col dd k0 k1 k2 k3 k5 "ValueError.__new__")) (h:PySem.W.excIn K C Ah "ValueError.__new__" = true):PySem.W.tailIn K Ah (.ref C::bm)=true:=by
 unfold PySem.W.excIn at h;rw[M]at h;simp only[vD]at h;unfold PySem.W.tailIn;simp [M,h.1.2,h.2,h.1.1.2,Bool.and_true,Bool.or_true]
section
variable {X:Cx}{C:Addr}{aa:AO}{σ:L2.St}{H:Hp}{s:Shared}{x:Str}{p aO pos:Pos}
def MI (R:Hp->Prop):TS:=λz z H=>R H
def sW {R:Hp->Prop}(c:Ec X.K C)(hn:PySem.W.excIn X.K C Ah "ValueError.__new__" = true)(hh:X.calm=true)(l:Gl X x)(hm:X.mg x=some (.ref C))
  (b:∀aa s σ H e O H0,Inv X aa σ H s->H=upd H0 e (XN e C O none)->H0 e=none->R H0->X.xe (.ref e) s)
  (m:autoParam ((x == ("__debug__" : Str))=false) Z9._auto_1):
  PS X (.Raise (some (.Call (.Name x p) [] [] aO)) none pos) (MI R):=by
 intro aa s σ H D I h;refine cX λG w=>?_;obtain⟨nm,q,N,bs,bm,sn,sub,ab,col,dd,k0,k1,k2,k3,k5,a,U,hp⟩:=c.ob;apply w;have i:=PySem.W.tail_of_in I.kIn (Jl a hn);have M:=I.kIn _ _ a;rw[arm_exec_Raise];refine wX (wpAny_standAt ?_);refine q8 (C:=C) (nm:=nm) (q:=q) (N:=N) (bs:=bs) (hdct:=true) (sn:=sn) (sub:=sub) (ab:=ab) (col:=col) (dd:=dd) (k0:=k0) (k1:=k1) (k2:=k2) (k3:=k3) (k5:=k5) (newId:="ValueError.__new__") U.2 (I.ok.hd hh) (wX ?_);refine wpAny_Call_Name_kw (fq I l hm ?_ m);refine PySem.W.callWith_K0 I.kIn c.kp ?_;have M:=I.kIn _ _ a;have i:=PySem.W.tail_of_in I.kIn (Jl a hn);obtain⟨f,g,d,t,os⟩:=s;cases i with
 |own j n1 n2 T=>
  rw[M]at j;cases j
  refine wpAny_call_exc_subT PySem.F.excBase_ValueError T M n1 n2 λh' e hm=>wX (wpAny_standAt (wY ?_));obtain⟨O,he,z,z⟩:=hm.there;have k:Inv X aa σ (upd H e (XN e C O none)) { (⟨f,g,d,t,os⟩:Shared)with heap:=h',toks:=t }:=Je I hm.keeps hm.new (Jc he);exact⟨e,O,none,r4,k.kIn _ _ a,he,b _ _ _ _ e O H k r4 (gy.none I.hok hm.new) h⟩
end
end EX
namespace DL
open PySem PySem.Spec PyProof.Rows L2 EX
open PySem.W (Frag findIn mroIn keepIn isFn)
def Oy (C:Addr):XK->VK:=λE z H0=>∀e,H0 e=none->E (.ref C) none (upd H0 e (XO e C none))
def REv (C:Addr)(name:Str):XK->VK:=λE=>RE E C name
section
variable {X:Cx}{RT:VK}{C:Addr}{x:Str}{p aO pos:Pos}
def gv (c:Ec X.K C)(hn:PySem.W.excIn X.K C Ah "ValueError.__new__" = true)(hh:X.calm=true)(hm:X.mg x=some (.ref C))
  (M:∀aa s σ H e U H0,Inv X aa σ H s->H=upd H0 e (XN e C U none)->H0 e=none->RT .non H0->X.xe (.ref e) s) (a:autoParam (Gl X x) I9._auto_1) (O:autoParam ((x == ("__debug__" : Str))=false) Z9._auto_1):
  JX X RT (.Raise (some (.Call (.Name x p) [] [] aO)) none pos) (cq (fC .non)):=
 PS.to (sW  c hn hh a hm M O) λE σ H q=>by
  refine cX λG g=>?_;obtain⟨B,ρ,d,b,s,r,e,q⟩:=nO  q;apply g;cases e
  exact q .non H B (.refl s) .non λz=>nomatch z
variable {P:Program}{w:World}{K:Frag}{mg:SV}{base:Heap}
def dY:
  ∀aa s σ H e M H0,Inv (bK (fj P w) P w K mg base N qual scope f O A outer s₀ H₀ E) aa σ H s->H=upd H0 e (XN e C M none)->H0 e=none->Oy C E v H0 ->
   (bK (fj P w) P w K mg base N qual scope f O A outer s₀ H₀ E).xe (.ref e) s:=λaa s σ H e M H0 I U h1 q=>by
 subst U;refine Ox I ae ?_;have:=q e h1;rwa [show upd _ e _=upd H0 e (XO e C _)from by funext b;unfold upd;split<;>rfl]
end
end DL
namespace EX
open PySem PySem.Spec PyProof.Rows L2 DL
open PySem.W (Frag findIn mroIn keepIn isFn)
def Jm(h:a.frame=b.frame):noteFrame e a=noteFrame e b:=by
 unfold noteFrame PySem.frameOf;rw[h]
def oF.stay(F:oF h e T c dx fl)(k1:h'.get? e=h.get? e)(k2:h'.get? T=h.get? T):oF h' e T c dx fl:=by
 refine cX λG g=>?_;obtain⟨⟨o,vs,M,r⟩,⟨O,ts,U,a⟩,ne⟩:=F;apply g;exact⟨⟨o,vs,k1.trans M,r⟩,⟨O,ts,k2.trans U,a⟩,ne⟩
def Lv (X:Cx)(E:XK):Prop:=∀ {e C T:Addr}{dx:Option Addr}{fl:Value}{H':Hp}{s':Shared}{aa:AO}{σ:L2.St},Inv X aa σ H' s'->oF s'.heap e T (.ref C) dx fl->H' e=some (XO e C dx)->H' T=none->X.s₀.z<=T ->
 (T≠X.env.locals/\(∀x c,X.env.cells.lookup x=some c->c≠T)/\∀p∈X.pn++aa,p.1≠T)->E (.ref C) dx H'->X.xe (.ref e) s'
section
variable {X:Cx}{E:XK}{N':LS}{scope:Scope}{cl:List (Str×Addr)}{C:Addr}{s₃:Shared}{H₃:Hp}{fp:List Addr}{aa:AO}{σ:L2.St}{Q:QV}{v7:Value}
def Fs (i:X.stack=X.env::X.outer)(n:X.env.frame=some X.env.locals)(K:Lv X E){W:QV}(N:W=notedBy (model X.prog X.w) X.A (compEnvC scope cl C X.env) λx s=>compPost (model X.prog X.w) X.A X.xe none Q v7 C (.error x) s)
  (r:∀pp j O H',Inv ((bG X N' scope cl C s₃ H₃ fp).wish W) pp O H' j->Inv X aa σ H' j/\(∃m,j.heap.Ns C m)/\eZ X aa H' C):dq (fj X.prog X.w) ((bG X N' scope cl C s₃ H₃ fp).wish W) E:=by
 intro pp O H s ev s' I h;obtain⟨e,t,dx,T,H',rfl,os,bare,un,hok,y,he,P,B,q⟩:=h;have J:Inv ((bG X N' scope cl C s₃ H₃ fp).wish W) pp O H' s':=I.call' (ch:=[]) os un hok bare λ_ z=>nomatch z;have Xh:s.z<=s'.z:=let ⟨_,_,a,_⟩:=y.tb;vR B (le_of_lt (vX a));obtain⟨U,_,_⟩:=r _ _ _ _ J;have R:∀b,s.z<=b->s₃.z<=b/\b≠C/\(∀x c,cl.lookup x=some c->c≠b)/\∀p∈((bG X N' scope cl C s₃ H₃ fp).wish W).pn++pp,p.1≠b:=λb hb=>
  ⟨vR I.sz hb,ne_of_gt (vQ I.lt hb),λx c e z=>by obtain⟨v,o,g,_⟩:=I.cell x c e;exact absurd (vX g) (by rw[z];exact Nat.not_lt.mpr hb),λp hp z=>absurd (vX (I.pin p hp).1) (by rw[z];exact Nat.not_lt.mpr hb)⟩
 show W (.ref e) s';rw[N];unfold notedBy;rw[Jm (a:=compEnvC scope cl C X.env) (b:=X.env) r4];have k:lI X.stack=X.env.locals::X.outer.filterMap (·.frame):=by rw[i];unfold lI;rw[List.filterMap_cons,n]
 refine jr (base:=X.base) (outer:=X.outer) (L:=X.env.locals) (by rw[<-i];exact J.ok.frames) (by rw[<-i];exact J.stack) n y (by simp[rawInt]) λh1 d D M S=>?_;obtain⟨V,⟨m,hm⟩,Y,Z,c2,c3,c4,c5⟩:=r _ _ _ _ (by
  have:=di (u:=XO e t dx) (Ts:=[T]) (h':=h1) J he (by show Kp (lI X.stack) _ _ _;rw[k];exact S) (λb hb=>by rw[uU hb];exact⟨P,R T B⟩) D.xo;rwa [fO he]at this);refine⟨m,hm,λh' f RA _=>?_⟩;have IX:Inv X aa σ H' { s' with heap:=h' }:=V.turned (λb o hb e=>(f.2 b hb).trans e) Y Z c3 c4 c5;have ne:e≠C:=λz=>by have:=J.free;rw[show((bG X N' scope cl C s₃ H₃ fp).wish W).env.locals=C from r4,<-z,he]at this;cases this
 have nT:d≠C:=ne_of_gt (vQ J.lt M);have F:=D.stay (h':=h') (f.2 e ne) (f.2 d nT);have n1:H' d=none:=hok.fresh M;have s1:X.s₀.z<=d:=vR U.sz M;have l1:d≠X.env.locals/\(∀x c,X.env.cells.lookup x=some c->c≠d)/\∀p∈X.pn++aa,p.1≠d:=
  ⟨ne_of_gt (vQ U.lt M),λx c e z=>by obtain⟨v,o,g,_⟩:=U.cell x c e;exact absurd (vX g) (by rw[z];exact Nat.not_lt.mpr M),λp hp z=>absurd (vX (U.pin p hp).1) (by rw[z];exact Nat.not_lt.mpr M)⟩
 obtain⟨o,vs,g,hc,hx,hd,ZF⟩:=F.ob;unfold PySem.passOn;refine wX (wpAny_field (s:={ s' with heap:=h' }) g hd ZF ?_);rw[if_neg X9];refine wX (F.set (s:={ s' with heap:=h' }) (fr:=lI X.stack) λh2 G K2=>wpAny_throw ?_);have l:Inv X aa σ H' { s' with heap:=h2 }:=by
  have:=di (u:=XO e t dx) (Ts:=[d]) (h':=h2) IX he (K2.more λb _ _ z=>mZ _ z) (λb hb=>by rw[uU hb];exact⟨n1,s1,l1⟩) G.xo;rwa [fO he]at this
 exact K l G he n1 s1 l1 q
end
section
variable {X:Cx}{E:XK}{RT:VK}{N':LS}{scope:Scope}{cl:List (Str×Addr)}{tg bN hU:Expr}{pos:Pos}{nT:Nat}{fU:LN}{gT:FG}{g:TG}{fi:FA}{fe fx:FE}
inductive Zb (K:Frag)(fi:FA)(nT:Nat)(fU:LN)(gT:FG)(fe fx:FE)(RT:VK)(σ:L2.St)(H:Hp):Prop|mk B ρ pre d zs ds M y:au B H->bQ K B σ ρ->fi ρ=some (pre++d::zs)->pre.length<=sizeLine->cF gT dN fe (g9 nT fU ρ) pre=some ds->gT d (g9 nT fU ρ)=some M->fx M=some y->Fin K B H y.1 y.2 RT->Zb K fi nT fU gT fe fx RT σ H
def Jn (M:X.calm=true)(V:X.stack=X.env::X.outer)(Y:X.env.frame=some X.env.locals)(Z:Lv X E)(S:CompSc X scope cl)(cp:hG X N' scope cl nT fU)(hi:JI X tg bN fi)
  (D:∀C s H fp W,PG ((bG X N' scope cl C s H fp).wish W) tg g) (F:FJ X.K nT gT g) (he:∀C s H fp W,JE ((bG X N' scope cl C s H fp).wish W) hU fe)
  (hx:∀C s H fp W,dq (fj X.prog X.w) ((bG X N' scope cl C s H fp).wish W) E->PE ((bG X N' scope cl C s H fp).wish W) hU (λσ H _=>tD X.K fx σ H RT))
  (hs:∀x,foldedSetIterable bN X.env x=pure x:=by intro _;rfl):
  PE X (.ListComp hU [⟨tg,bN,[],0⟩] scope pos) (λσ H _=>Zb X.K fi nT fU gT fe fx RT σ H):=by
 intro aa s σ H Q I ⟨B,ρ,pre,d,zs,ds,ρ1,y,sB,rep,ei,hsz,ec,e1,e2,q⟩;refine wpAny_comprehension_free r4 hs S.clos S.kind S.names (aV (hi _ s σ H (λJ H2=>∃N1,Ext B N1 H H2/\iq X.K J N1 (pre++d::zs)) I ⟨B,ρ,_,sB,rep,ei,λJ H2 N1 f j=>⟨N1,f,j⟩⟩) λv s1 h1=>aV h1 λZ7 s2 h2=>?_);refine cX λr v=>?_;obtain⟨it,fp,tn,J,H2,e,I2,T,FC,f2,N1,f,j⟩:=h2;apply v;clear v;subst e;refine m9 (zs:=d::zs) (items:=pre) (RR:=λv7 C=>compPost (model X.prog X.w) X.A X.xe none (EP X aa σ Q) v7 C)
   M S cp D F (λ_ _ _ _ _=>jI) he I2 T FC f2 (rep.mono f.bn) f.nh j hsz ec (λ_ _ _ _ z=>z) λp C O U hD G Sh out=>?_
 intro s5 b H' N vs P I' ti hn rp hl x OA Nq Kn;have sH:au N1 H':=x.bn.trans x.nh;obtain⟨go,yl⟩:=(j pre.length H' sH).1 d X9;refine aV (T.item ((bG X N' scope cl C O U fp).wish (notedBy (model X.prog X.w) X.A (compEnvC scope cl C X.env) λx s=>compPost (model X.prog X.w) X.A X.xe none (EP X aa σ Q) (.ref p) C (.error x) s)) r4 r4 r4 M pre.length [] s5 b H' _ I' (G _ hn) ti go) λr s6 ⟨u,eu,hq⟩=>?_;subst eu;refine aV hq λ_ L ⟨t,k,I5,rx,y5,t5,W4⟩=>?_;obtain⟨l,x5,i5⟩:=yl t k y5;obtain⟨h,c5⟩:=x.both x5;refine aV (D C O U fp _ (lK fp L.heap) L b k t u (λa m=>m=k/\bQ X.K (join N l) a ρ1) (I5.pinned (G _ W4) (T.obj _ _ t5)) rx
  (F (join N l) k b _ ρ1 t d _ (λi hi=>by simp_all [g9,getElem?_append_left]) (rp.mono (x.bn.trans cS)) h.nh (i5.mono c5) e1 hl λσ1 r1 r2 l1=>⟨r4,r1⟩)) λ_ s8 ⟨a,m,I6,eH,R⟩=>?_
 subst eH;refine aV (jI _ s8 a m (λc n=>c=true/\au m n) I6 ⟨join N l,ρ1,true,h.nh,R,r4,λn o=>⟨r4,o⟩⟩) λok s9 ⟨n,I7,eb,o⟩=>?_;subst eb;rw[if_pos r4];exact aV (hx C O U fp _ (Fs V Y Z r4 Sh) _ s9 a n (λ_ _=>False) I7 ⟨join N l,ρ1,y.1,y.2,h.nh.trans o,R,e2,q.into (((f.trans x).trans h).trans (.grow h.nh o))⟩) λ_ _ ⟨_,_,_,_,z⟩=>z.elim
end
end EX
namespace DL
open PySem PySem.Spec PyProof.Rows L2 EX
noncomputable def DE (tg:FG)(fe O:FE)(ρ:Env):LD->OB
 |[]=>none
 |d::r=>(tg d ρ).bind λM=>match O M with
  |some y=>some y
  |none=>(fe M).bind λz=>DE tg fe O ρ r
theorem qB:∀ {l:LD},DE tg fe O ρ l=some y->∃pre d zs ds M,l=pre++d::zs/\cF tg dN fe ρ pre=some ds/\tg d ρ=some M/\O M=some y
 |[],h=>nomatch h
 |d::r,h=>by
  refine eX h λM c h=>?_;cases e2:O M with
  |some z=>rw[e2]at h;cases h;exact⟨[],d,r,[],M,r4,X9,c,e2⟩
  |none=>
   rw[e2]at h;refine eX h λx e h=>?_;obtain⟨pre,d',zs,ds,U,rfl,ec,a,b⟩:=qB h;exact⟨d::pre,d',zs,x.1::ds,U,r4,by simp[c,e,ec],a,b⟩
@[simp] def fCX (O:FA)(U:Nat)(M:LN)(tg:FG)(fe a:FE):FE:=λρ=>(O ρ).bind λitems=>if items.length<=sizeLine then DE tg fe a (g9 U M ρ) items else none
@[simp] noncomputable def Wa (fa M:FE):FE:=λρ=>(fa ρ).bind λz=>M ρ
section
variable {X:Cx}{RT:VK}{E:XK}{scope:Scope}{tg bN hU a c e:Expr}{pos:Pos}{op:Operator}{r:R2}{nT:Nat}{fU:LN}{gT:FG}{g:TG}{fi:FA}{fa fe fx f:FE}
def QW (U:bT X (binaryOp op) r)(ha:JE X a fa)(hc:PE X c (λσ H _=>Zb X.K fi nT fU gT fe fx RT σ H)):PE X (.BinOp a op c pos) (λσ H _=>tD X.K (Wa fa (fCX fi nT fU gT fe fx)) σ H RT):=
 PE.to (A9 U ha hc) λσ H Q ⟨B,ρ,d,b,h,rep,e,q⟩=>by
  refine eX e λO j e=>eX e λitems ei e=>?_;split at e
  .rename_i hs;obtain⟨pre,d',zs,ds,M,rfl,ec,k,e2⟩:=qB e;exact⟨B,ρ,O.1,O.2,h,rep,j,λv l N x i fr=>⟨N,ρ,pre,d',zs,ds,M,(d,b),x.nh,rep.mono x.bn,ei,vR X9 hs,ec,k,e2,q.into x⟩⟩
  .cases e
def MJ (h:PE X e (λσ H z=>tD X.K f σ H RT)):JX X RT (.Return (some e) pos) (cq f):=
 PS.to (fH h) λD z z=>nO 
def Wb N'(O:X.stack=X.env::X.outer)(U:X.env.frame=some X.env.locals)(b:Lv X E)(hi:JI X tg bN fi)(he:∀ {C s H fp},JE (bG X N' scope (cc scope.names X.env.cells []) C s H fp) hU fe)
  (hx:∀ {C s H fp W},dq (fj X.prog X.w) ((bG X N' scope (cc scope.names X.env.cells []) C s H fp).wish W) E->PE ((bG X N' scope (cc scope.names X.env.cells []) C s H fp).wish W) hU (λσ H z=>tD X.K fx σ H RT))
  (d:FJ X.K nT gT g:=by first|exact kG Z9|exact AT Z9) (h:∀ {C s H fp},PG (bG X N' scope (cc scope.names X.env.cells []) C s H fp) tg g:=by intros;first|exact Mi 0|exact t7 r4 (cK (Mi 0) (cK (Mi 1) kx)))
  (cp:hG X N' scope (cc scope.names X.env.cells []) nT fU:=by repeat first|exact .nil r4|refine YF r4 r4 ?_)
  (S:CompSc X scope (cc scope.names X.env.cells []):=by exact HR) (M:autoParam (X.calm=true) I9._auto_1)
  (hs:∀x,foldedSetIterable bN X.env x=pure x:=by intro z;rfl):
  PE X (.ListComp hU [⟨tg,bN,[],0⟩] scope pos) (λσ H z=>Zb X.K fi nT fU gT fe fx RT σ H):=
 Jn M O U b S cp hi (λC s H fp W=>PG.nox  h) d (λC s H fp W=>PE.nox  he) (λz z z z z=>hx) hs
end
end DL
namespace Lw
open PySem PySem.Spec PyProof.Rows L2 DL EX
structure Cl0 (K:Frag)(x:PySem.Str)(C:Addr):Prop where
 nm:PySem.W.nsIn K mainGlobals x=some (some (.ref C))
 ec:Ec K C
 ei:Ei K C
 no:PySem.W.excIn K C Ah "ValueError.__new__" = true
noncomputable def gQ (s:Stmt):Stmt:=match s with
 |.ClassDef _ _ _ b _ _ _ _ _ _ _=>b.getD 0 (.Pass ⟨0,0,0,0⟩)
 |_=>.Pass ⟨0,0,0,0⟩
noncomputable def yp:FS:=
  (bZ (f6 (c8 (f2 jM (ai 0) (fC (.str "name")))) (bZ (f6 (eF (c8 (fA jp (ak (ai 1) aI)))) (cq (fC .non)) b9)
  gJ) b9)
  (bZ (cI 2 (fA fF (ak (ai 1) aI)))
  (bZ (f6 (eF (c8 (fA gP (ak (ai 2) (ak (fC (.int 0)) (ak (RS (c8 (f2 jM (ai 0) (fC (.str "day")))) (fC gN) (f2 PB (fC iP) (fC (.int 1)))) aI)))))) (cq (fC .non)) b9)
  gJ)))
def DF:LD->OB:=fG yp 2 1
noncomputable def dJ:FS:=
  (bZ (f6 (gb (c8 (f2 qI (fC (.str "number")) (f1 (zx dA) (f2 eY (ai 2) (fC (.int 0)))))) (c8 (f2 PD (f2 eY (ai 2) (fC (.int 1))) (fA cU (ak (ai 0) aI))))) (cq (fC .non)) b9)
  (f6 (gb (c8 (f2 jM (f2 eY (ai 2) (fC (.int 0))) (fC (.str "faults")))) (eF (c8 (fA eV (ak (ai 0) (ak (ai 1) (ak (f2 eY (ai 2) (fC (.int 1))) aI))))))) (cq (fC .non)) b9))
def aH:LD->OB:=fG dJ 3 0
noncomputable def yq:FS:=
  (bZ (cI 1 (f2 gM (ai 0) (fC (.str " "))))
  (bZ (f6 (io (c8 (f1 (zy dA) (f2 eY (ai 1) (fC (.int 0))))) (c8 (f2 i6 (fA cU (ak (ai 1) aI)) (f2 dG (fC (.int 1)) (fA cU (ak (f1 (zx dA) (f2 eY (ai 1) (fC (.int 0)))) aI)))))) (cq (fC .non)) b9)
  (cq (Wa (Ly (ai 1) kI (j4 (fC (.int 1)))) (fCX (L5 (f1 (zx dA) (f2 eY (ai 1) (fC (.int 0)))) (Ly (ai 1) (j4 (fC (.int 1))) kI)) 2 [] (TL [0,1]) (fA o5 (ak (ai 0) (ak (ai 1) aI))) (fA DF (ak (ai 0) (ak (ai 1) aI))))))))
def lC:LD->OB:=fG yq 1 1
noncomputable def iY:FS:=
  (bZ (f6 (eF (c8 (fA om (ak (ai 0) (ak (fA cG (ak (fC (.ty "list")) (ak (fC (.ty "tuple")) aI))) aI))))) (cq (fC .non)) b9)
  (bZ (cI 1 (fA kU (ak (ai 0) aI)))
  (bZ (f7 (iA (fA cU (ak (ai 1) aI))) (nA 2) (f6 (c8 (fA aM (ak (ai 1) (ak (ai 2) aI)))) (cq (ai 2)) b9))
  gJ)))
def aX:LD->OB:=fG iY 1 2
section
variable {P:Program}{w:World}{K:Frag}{mg:SV}{base:Heap}(T:Tx w K mg)
include T
theorem kc (i:Nat)(e:uP.cs[i]? = some t):KC K mg t.1 t.2:=T.cs _ (mem_of_getElem? e)
theorem kd (i:Nat)(e:uP.ds[i]? = some t):KD w K mg t.1 t.2:=T.ds _ (mem_of_getElem? e)
theorem nb (i:Nat)(e:uP.no[i]? = some x):mg x=none:=T.no _ (mem_of_getElem? e)
theorem yr (i:Nat)(e:(vg.gt bX).fs[i]? = some t):Fn P w K mg base t.2.1 t.1 t.2.2:=(QP T).fs _ (mem_of_getElem? e)
theorem Cl0.mg_(c:Cl0 K x C):mg x=some (.ref C):=let ⟨_,X,G⟩:=T.hX;mg_of X G c.nm
omit T in
theorem Wc {N:List PySem.Str}{qual:PySem.Str}{scope:Scope}{f:Addr}{O:Value}{A:Around}{outer:List PySem.Env}{s₀:Shared}{H₀:Hp}{E:XK}:Lv (bK (fj P w) P w K mg base N qual scope f O A outer s₀ H₀ E) E:=λJ F he U a M q=>Fp J F he U a M q
theorem ML {C:Addr}(c:Cl0 K "NoWord" C):FnX P w K mg base (Oy C) 3 "meant" DF:=(T.a 40:nD K "meant" _).fqX T.hX yp ["kind","word","number"] 2 λnd M hu=>
  (dC (nq (bw (w6 hu) (ah 0) aC) (dC (nq (iu (dc (eN (yr T 96 r4:Fn P w K mg base 1 "is_name" jp) M (ag (ah 1) aB)))) (d5 (gv c.ec c.no r4 (c.mg_ T) dY)) iX)
   (d5 q9)) iX)
   (dC (Ak (i:=2) nd (eN (yr T 75 r4:Fn P w K mg base 2 "number_of" fF) M (ag (ah 1) aB)))
   (dC (nq (iu (dc (eN (yr T 100 r4:Fn P w K mg base 1 "is_whole" gP) M (ag (ah 2) (Im (ag (NI (bw (w6 hu) (ah 0) aC) (kJ (kc T 1 r4:KC K mg "LAST_DAY" gN)) (gd NJ (kJ (kc T 8 r4:KC K mg "MOST_ROWS" iP)) aL)) aB)))))) (d5 (gv c.ec c.no r4 (c.mg_ T) dY)) iX)
   (d5 q9))))
theorem MN {C:Addr}(c:Cl0 K "NoNumber" C):FnX P w K mg base (Oy C) 4 "check_number" aH:=(T.a 46:nD K "check_number" _).fqX T.hX dJ ["book","known","said"] 3 λnd M hu=>
  (dC (nq (nB (ug (bw GL aC (nY (kd T 0 r4:KD w K mg "KINDS" dA) (cj (ah 2) aL))) (nR (bw Tw (cj (ah 2) aL) (de mB (nb T 7 r4:mg "len" = none) kK (ag (ah 0) aB)))))) (d5 (gv c.ec c.no r4 (c.mg_ T) dY)) iX)
   (d5 (nq (nB (ug (bw (w6 hu) (cj (ah 2) aL) aC) (nR (iu (dc (eN (yr T 60 r4:Fn P w K mg base 3 "is_borne" eV) M (ag (ah 0) (ag (ah 1) (ag (cj (ah 2) aL) aB))))))))) (d5 (gv c.ec c.no r4 (c.mg_ T) dY)) iX)))
theorem MO {C:Addr}(c:Cl0 K "NoWord" C):FnX P w K mg base (Oy C) 4 "asked" lC:=(T.a 41:nD K "asked" _).fqX T.hX yq ["row","said"] 1 λnd M hu=>
  (dC (Ak (i:=1) nd (iC slot_str_split type_str_split uI mm (ah 0) aC))
   (dC (nq (nB (kH (rQ (kd T 0 r4:KD w K mg "KINDS" dA) (cj (ah 1) aL)) (gA (bw (jx hu) (de mB (nb T 7 r4:mg "len" = none) kK (ag (ah 1) aB)) (gd fN aL (de mB (nb T 7 r4:mg "len" = none) kK (ag (nY (kd T 0 r4:KD w K mg "KINDS" dA) (cj (ah 1) aL)) aB))))))) (d5 (gv c.ec c.no r4 (c.mg_ T) dY)) iX)
   (d5 (MJ (QW fN (kO (ah 1) nV (nW aL)) (Wb ["kind","word"] r4 r4 Wc (GW (nb T 17 r4:mg "zip" = none) (nY (kd T 0 r4:KD w K mg "KINDS" dA) (cj (ah 1) aL)) (kO (ah 1) (nW aL) nV)) (eN (yr T 65 r4:Fn P w K mg base 3 "meant" o5) M (ag (ah 0) (ag (ah 1) aB))) (λ{_ _ _ _ _} hx=>yo (ML T c) (M.mono Z9) hx (ag (ah 0) (ag (ah 1) aB)))))))))
theorem Wd {C:Addr}(c:Raw K "NoRegister" (gQ (jm 2)) C):FnX P w K mg base (REv C "at") 9 "register_of" aX:=by
 have M:Exc P w K mg base "NoRegister" C "at":=c.exc T.hX;refine cX λG g=>?_;obtain⟨fI,fd,ps,i1,i2,U,b⟩:=M.init;apply g;exact(T.a 28:nD K "register_of" _).fqX T.hX iY ["rows","book","place"] 1 λnd O hu=>
  (dC (nq (iu (dc (de rT (nb T 6 r4:mg "isinstance" = none) dR (ag (ah 0) (ag (fK (ag (AN (nb T 8 r4:mg "list" = none) pi) (ag (AN (nb T 16 r4:mg "tuple" = none) nX) aB))) aB))))) (d5 (yn M.ec i1 i2 U (O.mono Z9) b M.nm jJ qA)) iX)
   (dC (Ak (i:=1) nd (dU AW (nb T 16 r4:mg "tuple" = none) nX (ag (ah 0) aB)))
   (dC (ME VX r4 (kM (nb T 11 r4:mg "range" = none) (de mB (nb T 7 r4:mg "len" = none) kK (ag (ah 1) aB))) (Qv 2 nd) ir (d5 (nq (dc (eN (yr T 78 r4:Fn P w K mg base 8 "is_refused" aM) O (ag (ah 1) (ag (ah 2) aB)))) (d5 (yn M.ec i1 i2 U (O.mono Z9) b M.nm (ah 2) qA)) iX)))
   (d5 q9))))
end
end Lw
namespace DL
open PySem PySem.Spec PyProof.Rows L2
section
variable {X:Cx}
@[simp] noncomputable def vj:D->D->OB
 |.str x,.str y=>some (.bl (Txt.startswith x y),false)
 |_,_=>none
def Al (dx M)r(h:vj dx M=some r):∃z,dx=.str z:=by
 cases dx<;>first|exact⟨_,r4⟩|cases h
def Jo:Kg X "str.startswith" (λx xs H Q=>∃y,xs=[y]/\rD X.K vj x y H Q):=by
 intro aa s σ H x xs v us Q I O U h;obtain⟨y,rfl,B,dx,f,d,g,a,b,c,M,q⟩:=h;obtain⟨i,rfl,e⟩:=cZ U;cases b<;>try (cases M)
 cases c<;>try (cases M;done)
 cases M
 obtain⟨t,rfl⟩:=O;obtain⟨u,rfl⟩:=e;exact SC.startswith ⟨.bl _,H,I,r4,q.one a (.bl _)⟩
end
section
variable {X:Cx}
@[simp] noncomputable def Am:LD->Option (List Bool)
 |[]=>some []
 |.bl c::r=>(Am r).map (c :: ·)
 |_=>none
@[simp] def Jp:D->D->OB
 |.lst ds,.bl true=>(Am ds).map λcs=>(.int (cs.countP id),false)
 |_,_=>none
theorem sX {K:Frag}{ds:LD}{vs:LV}{its:LU}{cs:List Bool}(h:IsL K B vs ds)(j:aD vs its)(e:Am ds=some cs):its=cs.map Value.bool:=by
 induction h using IsL.ind generalizing its cs with
 |n=>cases j;cases e;rfl
 |s i _ n=>
  cases j with|cons r O=>
  cases i<;>try (cases e;done)
  obtain⟨cs,U,rfl⟩:=oY e;cases r
  rw[n O U];rfl
theorem nr e(h:∀c,e (.bool c)=c):∀cs:List Bool,(cs.map Value.bool).countP e=cs.countP id
 |[]=>r4
 |c::cs=>by rw[uZ,List.countP_cons,List.countP_cons,nr e h cs,h];rfl
set_option tactic.hygienic true in
def MP:Kg X "list.count" (λx xs H Q=>∃y,xs=[y]/\rD X.K Jp x y H Q):=by
 intro aa s σ H x xs v us Q I U a h;obtain⟨y,rfl,B,dx,k,d,m,O,f,g,M,q⟩:=h;obtain⟨u,rfl,ru⟩:=a.one;cases f<;>try (cases M;done)
 rename_i l vs ds hl hs;cases g<;>try (cases M;done)
 rename_i c;cases c<;>try (cases M;done)
 refine eB M λcs ec e2=>?_;cases e2
 cases U
 cases ru
 refine cX λG W=>?_;obtain⟨its,i,⟨o,n,e,h1,h2,h3⟩,_⟩:=I.list (O.seq hl);apply W;obtain rfl:=sX hs i ec;obtain⟨p,r,t,j⟩:=o;cases h1;cases h2;cases h3
 refine call_meets PySem.F.slot_list_count ⟨_,e,r4⟩ PySem.F.entry_list_count (PySem.F.args_list_count_2 _ _) (PySem.SeqAt.list_countAt _ _ n none j _ (λy=>match y with|.bool b=>b|_=>false)) ⟨e,λy hy=>?_,?_⟩
 .obtain⟨c,_,rfl⟩:=mem_map.mp (Array.mem_toList_iff.mpr hy);simpa using PySem.SeqAt.EqAt.bool_bool (A:=X.A.in1) (s:=s) c true
 .exact⟨.int _,H,I.tok _,⟨_,by rw[nr _ λ_=>r4]⟩,q.one O (.int _)⟩
variable {o e:Expr}{fo fe:FE}{aW aO:Pos}
def yt (g:JE X o fo)(he:JE X e fe)(U:autoParam (attributeBase o "count" X.env (eval o X.env)=eval o X.env) I9._auto_1)
  (i:autoParam (m4 aO e X.env) I9._auto_1) (j:autoParam ((aW.endLine == aO.line)=true) I9._auto_1) (hs:autoParam (ce e X.env) I9._auto_1):
  JE X (.Call (.Attribute o "count" aW) [e] [] aO) (f2 Jp fo fe):=by
 refine PE.to (oQ plainAttrs_list PySem.F.slot_list_count PySem.F.type_list_count MP g (av he aN hs) U i j hs r4) λσ H Q q=>cX λG W=>?_;obtain⟨B,ρ,d,k,l,r,O,q⟩:=q;refine eX O λb ex O=>eX O λc m O=>?_;apply W;obtain⟨ds,hz⟩:∃ds,b.1=.lst ds:=by
  cases h:b.1<;>rw[h]at O<;>first|exact⟨_,r4⟩|cases O
 refine⟨B,ρ,b.1,b.2,l,r,ex,λv s N1 M i1 z=>?_⟩;rw[hz]at i1 O;obtain⟨a,rfl,vs,hl⟩:∃a,v=.ref a/\∃vs,dj X.K N1 a vs:=by cases i1;exact⟨_,r4,_,by assumption⟩
 exact⟨.inl ⟨r4,_,M.nh.seq hl⟩,N1,ρ,c.1,c.2,M.nh,r.mono M.bn,m,λn H2 N2 f p z=>⟨n,r4,N2,.lst ds,c.1,d,k,f.nh,i1.mono f.bn,p,O,q.into (M.trans f)⟩⟩
end
end DL
namespace EX
open PySem PySem.Spec PyProof.Rows L2
open PySem.W (Frag findIn mroIn keepIn isFn)
section
variable {X:Cx}{C D:Addr}
def We (O:Addr)(m:Str)(sp:Sp)(ta:TE)(t:TA)(C:Addr)(j:Nat)(tb:TS):TS:=λU σ H=>ta σ H λx H0=>∃a dx fs,x=.ref a/\H0 a=some (.ins O dx fs)/\fs.lookup m=none/\t σ H0 λvs b=>sp (x::vs) b (λz z=>False) λc d H'=>c=.ref C/\Aj H' d /\
 ∀e,H' e=some (XO e C d)->tb { nx:=λM H2=>U.nx (M.set j none) H2,rt:=λz z=>False } (σ.set j (some (.ref e))) H'
def DG {k j:Nat}{M:Stmt}{bs:List Stmt}{tb:TS}{fd:FuncData}{ps:LS}{sp:Sp}{ta:TE}{t:TA}{o a:Expr}{n b m:Str}{L hp aW aO E g:Pos}{i f:Addr}{pl:Sem Bool}
  (P:PE X.nox o ta) (c:Cls X.K i) (hm:qY X.K i m f) (F:dI X.prog X.w X.K X.mg X.base (fj X.prog X.w) k f fd ps sp) (Q:bB k X.A)
  (hb:cL X.K fd ps []) (ha:PA X.nox [a] t) (R:X.stack=X.env::X.outer) (S:X.env.frame=some X.env.locals) (T:X.N.Nodup)
  (hj:X.N[j]? = some n) (hn:X.env.kindOf n=some .local) (p:∀Y Z,kj (mk X Y Z) (M::bs) tb) (v:Gl X b) (y:X.mg b=some (.ref D)) (hx:PySem.W.exmOne X.K (.ref C) (.ref D)=some true)
  (he:autoParam (bE a [] X.env) I9._auto_1) (hpl:autoParam (dL aO [] X.env) I9._auto_1)
  (ht:autoParam (eval (.Call (.Attribute o m aW) [a] [] aO) X.env=(do
   let ov <-eval o X.env
   standAt aW.atName
   let (f,first) <-holding [ov] (getMethod ov m pl)
   callWith aO f first (backTo aO (starEach [a] X.env)) (backToKw aO (keywordEach [] X.env)))) I9._auto_1)
  (oC:autoParam ((b == ("__debug__" : Str))=false) Z9._auto_1) (OG:autoParam (interactive X.env=false) I9._auto_1) (B:autoParam (swapsWith (.Call (.Attribute o m aW) [a] [] aO) none E.line X.env=pure false) I9._auto_1):
  PS X (.Try [.Expr (.Call (.Attribute o m aW) [a] [] aO) E] [.ExceptHandler (some (.Name b L)) (some n) (M::bs) hp] [] [] g) (We i m sp ta t C j tb):=by
 intro aa s σ H Dn I h;refine wpAny_Try_except (wpAny_execs_cons (wpAny_Expr ?_ OG B));refine PySem.W.methodCall_KW (wpAny_mono (P aa s σ H _ (I.wish _) h) (λu G ⟨x,H0,U,rx,ad,dx,fs,ex,ea,l,q⟩=>?_) λ_ _ z=>False.elim z) ht;subst ex;obtain rfl:u=Value.ref ad:=rx;have U:Inv X aa σ H0 G:=U.unwish;refine jG U ea c hm l ?_;refine PySem.W.callWith_K U.ok.mod.kin hm.kp (wpAny_mono (ha aO aa G σ H0 _ (U.wish _) q) (λus s1 ⟨vs,J,O,r,q⟩=>⟨O.kIn,?_⟩) λ_ _ z=>False.elim z) he hpl;have O:Inv X aa σ J s1:=O.unwish;have r:aD (V.ref ad::vs) (Value.ref ad::us):=.cons r4 r;have hl:(Value.ref ad::us).length=ps.length:=by rw[<-r.length];exact F.len _ _ _ _ q
 refine wpAny_call (codeAny_mono (F.run X.A X.stack s1 J ⟨Value.ref ad::us,[]⟩ (Value.ref ad::us) (V.ref ad::vs) _ _ Q O.env0 (by have:=hb s1 (Value.ref ad::us) O.kIn (by rw[uR];exact hl);rwa [uR]at this) r q) λr s' hq=>?_);cases r with
 |error e=>
  dsimp only[CR]at hq;exact MH R S T hj hn p v y hx O hq (λc d H' z=>z) oC
 |ok fl=>
  cases fl with
  |ret u=>obtain⟨_,_,_,_,_,_,_,z⟩:=hq;exact z.elim
  |next=>exact False.elim hq
  |brk=>exact False.elim hq
  |cont=>exact False.elim hq
end
end EX
namespace Lw
open PySem PySem.Spec PyProof.Rows L2 DL EX
noncomputable def Ft (s:Stmt)(i:Nat):Stmt:=match s with
 |.ClassDef _ _ _ b _ _ _ _ _ _ _=>b.getD i (.Pass ⟨0,0,0,0⟩)
 |_=>.Pass ⟨0,0,0,0⟩
structure Dk (K:Frag)(C:Addr):Prop where
 nm:PySem.W.nsIn K mainGlobals "Desk" = some (some (.ref C))
 cl:Cls K C
 n1:NoAttr K C "book"
 n2:NoAttr K C "known"
 n3:NoAttr K C "on"
 nw:∃f fd q,Mk K C f/\DS K "__init__" q (Ft (jm 155) 0) f fd
 tk:∃f fd q,qY K C "take" f/\DS K "take" q (Ft (jm 155) 1) f fd
 sy:∃f fd q,qY K C "say" f/\DS K "say" q (Ft (jm 155) 2) f fd
noncomputable abbrev DH (M:V)(kn on:Int):List (PySem.Str×V):=[("book",M),("known",.int kn),("on",.int on)]
def yu (K:Frag)(C:Addr)(N H:Hp)(a:Addr)(bk:D)(kn on:Int):Prop:=N a=none/\∃dx M,H a=some (.ins C dx (DH M kn on))/\Is K N M bk
structure vy (m:Addr)(B N H H':Hp):Prop where
 hh:∀a o,a≠m->H a=some o->H' a=some o
 bn:au B N
 nh:au N H'
 new:∀a o,N a=some o->B a=some o\/H a=none
def vy.put(x:Ext B N H H')(na:N a=none):vy a B N H (upd H' a o):=
 ⟨λb u n e=>by rw[af n];exact x.hh b u e,x.bn,λb u e=>by rw[af (λz=>by rw[z,na]at e;cases e)];exact x.nh b u e,x.new⟩
inductive Res
 |ok (bk:D)
 |text (n:D×Bool)
 |row (d:D×Bool)
noncomputable def sY (bk ln:D):Option Res:=(dh [ln]).bind λr=>match r.1 with
 |.non=>(cU [bk]).map .text
 |x=>(cG [x]).bind λt=>(dG bk t.1).bind λz=>match aX [z.1] with
  |some d=>some (.row d)
  |none=>(aT [z.1]).map λy=>.ok y.1
inductive Ko (K:Frag)(C Ct Cr:Addr)(vs:List V)(H:Hp)(Q:VK)(E:XK):Prop|mk B a O ln bk kn on:vs=[.ref a,O]->(au B H/\Tb K B)->yu K C B H a bk kn on->Is K B O ln->(match sY bk ln with |some (.ok M)=>∀H' N,vy a B N H H'->yu K C N H' a M kn on->Q (.str "ok") H' |some (.text n)=>Fin K B H n.1 n.2 (RE E Ct "at") |some (.row d)=>Fin K B H d.1 d.2 (RE E Cr "at") |none=>False)->Ko K C Ct Cr vs H Q E
def QX (K:Frag)(C Ct Cr:Addr):Sp:=λvs H Q E=>Ko K C Ct Cr vs H Q E
section
variable {K:Frag}{B H:Hp}{σ:L2.St}{ρ:DL.Env}{E:Ends}{a:Addr}{C:Addr}{dx:Addr}{fs:List (PySem.Str×V)}
def Xx(s:au B H)(r:bQ K B σ ρ)(e:f ρ=some true)(h:∀M,au H M->t { E with nx:=u E } σ M):FV (DZ (wk K f) t b) u E σ H:=
 ⟨B,ρ,_,s,r,e,λM s1=>by exact h M s1⟩
def Xy{t u:TS}(s:au B H)(r:bQ K B σ ρ)(e:f ρ=some false)(h:∀M,au H M->u E σ M):FV (DZ (wk K f) t vO) u E σ H:=
 ⟨B,ρ,_,s,r,e,λM s1=>by exact h M s1⟩
def Jq(hi:σ[i]? = some (some (.ref a)))(h:H a=some (.ins C dx fs))(c:Cls K C)(n:NoAttr K C f)(l:fs.lookup f=some v)(q:Q v H):K7 K (kq i) f σ H Q:=
 ⟨_,hi,_,_,_,_,_,r4,h,c,n,l,q⟩
def Zc {sp:Sp}{M:LV}{E:XK}{t:TA}{Q:VK}(h:t σ H λvs O=>sp (vs++M) O Q E):Gg sp M E t σ H Q:=h
def QY{f:PySem.Str}{v:V}{t:TA}{Q:LV->Hp->Prop}(hi:σ[i]? = some (some (.ref a)))(h:H a=some (.ins C dx fs))(c:Cls K C)(n:NoAttr K C f)(l:fs.lookup f=some v)(q:t σ H λxs M=>Q (v::xs) M):ky (K7 K (kq i) f) t σ H Q:=
 Jq hi h c n l q
def Oz{f:FE}{g:PySem.Str}{n:Int}{b:Bool}{u:TS}(s:au B H)(r:bQ K B σ ρ)(e:f ρ=some (.int n,b))(hi:σ[i]? = some (some (.ref a)))(c:Cls K C)(m:NoAttr K C g)(hl:fs.length<1000)
  (q:∀M N1,Ext B N1 H M->M a=some (.ins C dx fs)/\u E σ (upd M a (.ins C dx (jv g (.int n) fs)))):FV (SY K (kq i) (tD K f) g) u E σ H:=
 ⟨B,ρ,_,b,s,r,e,λv M N1 x i1 z=>by cases i1;exact⟨_,hi,_,_,_,_,r4,(q M N1 x).1,c,m,hl,(q M N1 x).2⟩⟩
end
def An(a:PE X e t)(b:PE X e u):PE X e λσ H Q=>t σ H Q\/u σ H Q:=λaa s σ H Q I h=>h.elim (a aa s σ H Q I) (b aa s σ H Q I)
def O0 {K:Frag}{B N H H':Hp}{a:Addr}{o:HO}(na:B a=none)(ha:H a=some o)(x:Ext B N H H'):H' a=some o/\N a=none:=⟨x.hh _ _ ha,by
 cases z:N a with
 |none=>rfl
 |some u=>
  rcases x.new a u z with q|q
  .rw[na]at q;cases q
  .rw[ha]at q;cases q⟩
def Wf {K:Frag}(t:Tb K N)(i:Is K N M ln):bQ K N [some u,some M,none] [none,some (ln,false),none]:=⟨t,λj d b z=>by
 rcases j with y|y|y|j
 .cases z
 .cases z;exact⟨M,r4,i⟩
 .cases z
 .cases z⟩
def O1 {K:Frag}(t:Tb K N)(i:Is K N M ln)(k:Is K N v O):bQ K N [some u,some M,some v] [none,some (ln,false),some (O,false)]:=⟨t,λj d b z=>by
 rcases j with y|y|y|j
 .cases z
 .cases z;exact⟨M,r4,i⟩
 .cases z;exact⟨_,r4,k⟩
 .cases z⟩
noncomputable abbrev Zd:List PySem.Str:=["self","line","row"]
section
variable {P:Program}{w:World}{K:Frag}{mg:SV}{base:Heap}(T:Tx w K mg)
include T
theorem MQ {C Ct Cr:Addr}(k:Dk K C)(ct:Raw K "NoText" (gQ (jm 3)) Ct)(cr:Raw K "NoRegister" (gQ (jm 2)) Cr):
  ∃f fd ps,qY K C "take" f/\dI P w K mg base (fj P w) 10 f fd ps (QX K C Ct Cr)/\cL K fd ps []:=by
 obtain⟨f,fd,q,M,F⟩:=k.tk;refine⟨f,fd,["self","line"],M,?_,F.binds λ_ _ _ _ _ _ us hl=>match us,hl with|[_,_],_=>r4⟩;obtain⟨oc,od,kV,doc,pm,an,bD,ct',gZ,rfl,lk,oC⟩:=F.ex;have G:Exc P w K mg base "NoText" Ct "at":=ct.exc T.hX;obtain⟨fI,fdI,psI,i1,i2,g,I⟩:=G.init;have S:FnScope Zd ["self","line"] (aj (Ft (jm 155) 1)):=by refine⟨r4,r4,r4,?_,r4,?_,?_⟩<;>decide +kernel
 have nd:Zd.Nodup:=S.nd;refine m7 (k:=9) (N:=Zd) lk oC S (λvs H Q E ⟨B,a,lv,ln,bk,kn,on,ev,_,_,_,_⟩=>by rw[ev];rfl) λA outer s H vs Q E u h=>?_;obtain⟨B,a,lv,ln,bk,kn,on,rfl,m,⟨na,dx,bv,ha,ib⟩,il,O⟩:=h;cases J:sY bk ln with
 |none=>rw[J]at O;exact O.elim
 |some res=>
 rw[J]at O;have f2:Fn P w K mg base 8 "row_of" dh:=yr T 67 r4;have f3:Fn P w K mg base 9 "register_of" aT:=yr T 77 r4;obtain⟨ad,fdR,psR,g1,g2,g3,g4⟩:=f3.ex;obtain⟨ax,fdX,psX,y1,y2,y3,y4⟩:=(Wd T cr).ex;have L:mg "len" = none:=nb T 7 r4;have keep:∀ {N H':Hp},Ext B N H H'->H' a=some (.ins C dx (DH bv kn on))/\N a=none:=λx=>O0 (K:=K) na ha x;refine⟨_,aq (cm (i:=2) nd r4 (Or.inl r4) (eN f2 u (ag (ah 1) aB)))
   (aq (fX (FR (OO (aF (i:=2) r4 (.inl r4)))) (bf (ym (R:=RE E Ct "at") G.ec i1 i2 g (u.mono Z9) I r4 G.nm (hV mB r4 L kK (av (fJ (aF (i:=0) r4 (.inl r4)) I9) aN)) qA)) c9)
   (aq (lM (aF (i:=0) r4 (.inl r4)) (An (fw y1 (u.mono Z9) r4 y2 y3 y4 .nil o6 (av (A9 fN (fJ (aF (i:=0) r4 (.inl r4)) I9) (fK (ag (ah 2) aB))) aN)) (fw g1 u r4 g2 g3 g4 .nil (E:=λ_ _ _=>False) rl (av (A9 fN (fJ (aF (i:=0) r4 (.inl r4)) I9) (fK (ag (ah 2) aB))) aN))) I9)
   (bf (fH t4)))),?_⟩
 obtain⟨⟨D,rb⟩,er,U⟩:=oX J;refine⟨B,_,D,rb,m.1,Wf m.2 il,er,λv H1 N1 b iv _=>⟨_,r4,_,r4,?_⟩⟩;by_cases hn:D=.non
 .subst hn;obtain⟨n,en,rfl⟩:=oY U;cases iv
  show(if decide (V.non=V.non)=true then _ else _);rw[if_pos Z9];exact Jq r4 (keep b).1 k.cl k.n1 r4 ⟨N1,[bk],n.1,n.2,b.nh,.cons (ib.mono b.bn) .nil,en,λv H' N x i f=>⟨v,r4,(O.into b) v H' N x i f⟩⟩
 .have U:((cG [D]).bind λt=>(dG bk t.1).bind λz=>match aX [z.1] with
   |some d=>some (Res.row d)
   |none=>(aT [z.1]).map λy=>Res.ok y.1)=some res:=by
   cases D<;>first|exact U|exact absurd r4 hn
  obtain⟨⟨t1,tb⟩,et,U⟩:=oX U;obtain⟨⟨o,zb⟩,ez,U⟩:=oX U
  -- self.book+(row,),and what is behind it
  have p:∀ {R:VK},(∀j l e,Ext B e H l->Is K e j o->R j l)->RN (rD K dG) (K7 K (kq 0) "book") (tD K (fA cG (ak (ai 2) aI))) [some (V.ref a),some lv,some v] H1 R:=λq=>
   Jq r4 (keep b).1 k.cl k.n1 r4 ⟨N1,_,t1,tb,b.nh,O1 (m.2.mono b.bn) (il.mono b.bn) iv,by simpa using et,λv2 H2 N2 W i2 _=>
    ⟨N2,bk,t1,o,zb,W.nh,ib.mono (b.bn.trans W.bn),i2,ez,λj l e c g _=>q j l e ((b.trans W).trans c) g⟩⟩
  have X:decide (v=.non)=false:=by cases iv<;>first|rfl|exact absurd r4 hn
  show(if decide (v=V.non)=true then _ else _);rw[X,if_neg Z9];cases Y:aX [o] with
  |some d=>
   rw[Y]at U;cases U
   exact .inl (p λj l e c g=>⟨e,[o],d.1,d.2,⟨c.nh,m.2.mono c.bn⟩,.cons g .nil,Y,O.into c⟩)
  |none=>
   rw[Y]at U;obtain⟨⟨y,yb⟩,ey,rfl⟩:=oY U;refine .inr (p λj l e c g=>⟨e,[o],y,yb,⟨c.nh,m.2.mono c.bn⟩,.cons g .nil,ey,λv4 H4 N4 x4 I _=>?_⟩);have x:=c.trans x4;obtain⟨Z,r⟩:=keep x;exact⟨.ref a,r4,a,C,dx,DH bv kn on,r4,Z,k.cl,k.n1,(by show 3<1000;decide),O _ N4 (.put x r) ⟨r,dx,v4,ae,I⟩⟩
end
inductive SRes
 |ok (bk:D) (kn on:Int)
 |ans (d:D×Bool)
 |word (d:D×Bool)
 |number (d:D×Bool)
 |text (n:D×Bool)
 |row (d:D×Bool)
noncomputable def kT (s:D)(z:PySem.Str):Option Bool:=c8 (f2 jM (f2 eY (ai 0) (fC (.int 0))) (fC (.str z))) [some (s,false)]
noncomputable def isS (row:D):Option Bool:=eF (c8 (fA i7 (ak (ai 0) (ak (fC (.ty "str")) aI)))) [some (row,false)]
noncomputable def Wg (row:D):Option Bool:=c8 (f2 vj (ai 0) (fC (.str "add "))) [some (row,false)]
noncomputable def QZ (row:D):OB:=Ly (ai 0) (j4 (fA cU (ak (fC (.str "add ")) aI))) kI [some (row,false)]
noncomputable def fm (bk:D)(kn on:Int)(row:D):Option SRes:=(isS row).bind λc=>if c=true then some (.word (.non,false))else (Wg row).bind λc=>if c=true then (QZ row).bind λl=>(sY bk l.1).map λr=>match r with
  |.ok M=>.ok M kn on
  |.text n=>.text n
  |.row d=>.row d
 else match lC [row] with
 |some d=>some (.word d)
 |none=>(lw [row]).bind λs=>match aH [bk,.int kn,s.1] with
  |some d=>some (.number d)
  |none=>(bj [bk,.int kn,s.1]).bind λz=>(kT s.1 "known").bind λc=>if c=true then (eY s.1 (.int 1)).bind λn=>match n.1 with
    |.int i=>some (.ok bk i on)
    |_=>none
   else (kT s.1 "on").bind λc=>if c=true then (eY s.1 (.int 1)).bind λn=>match n.1 with
    |.int i=>some (.ok bk kn i)
    |_=>none
   else (bX [bk,.int kn,.int on,s.1]).map .ans
def Jr (K:Frag)(C Cw Cn Ct Cr:Addr)(B H:Hp)(a:Addr)(bk:D)(kn on:Int)(Q:VK)(E:XK):SRes->Prop
 |.ok M O on'=>∀H' N,vy a B N H H'->yu K C N H' a M O on'->Q (.str "ok") H'
 |.ans d=>Fin K B H d.1 d.2 Q
 |.word d=>Fin K B H d.1 d.2 (Oy Cw E)
 |.number d=>Fin K B H d.1 d.2 (Oy Cn E)
 |.text n=>Fin K B H n.1 n.2 (RE E Ct "at")
 |.row d=>Fin K B H d.1 d.2 (RE E Cr "at")
inductive Kq (K:Frag)(C Cw Cn Ct Cr:Addr)(vs:List V)(H:Hp)(Q:VK)(E:XK):Prop|mk B a M ln bk kn on r:vs=[.ref a,M]->(au B H/\Tb K B)->yu K C B H a bk kn on->Is K B M ln->fm bk kn on ln=some r->Jr K C Cw Cn Ct Cr B H a bk kn on Q E r->Kq K C Cw Cn Ct Cr vs H Q E
def yv (K:Frag)(C Cw Cn Ct Cr:Addr):Sp:=λvs H Q E=>Kq K C Cw Cn Ct Cr vs H Q E
def vy.pre {a:Addr}{B N N2 H M H2:Hp}(x:Ext B N H M)(y:vy a N N2 M H2):vy a B N2 H H2:=
 ⟨λb u n e=>y.hh b u n (x.hh b u e),x.bn.trans y.bn,y.nh,λb u e=>(y.new b u e).elim (x.new b u) λq=>.inr (x.hh.free q)⟩
noncomputable abbrev Ze:List PySem.Str:=["self","row","said"]
section
variable {P:Program}{w:World}{K:Frag}{mg:SV}{base:Heap}(T:Tx w K mg)
include T
theorem Ao {C Cw Cn Ct Cr:Addr}(k:Dk K C)(cw:Cl0 K "NoWord" Cw)(cn:Cl0 K "NoNumber" Cn)(ct:Raw K "NoText" (gQ (jm 3)) Ct)(cr:Raw K "NoRegister" (gQ (jm 2)) Cr):
  ∃f fd ps,qY K C "say" f/\dI P w K mg base (fj P w) 16 f fd ps (yv K C Cw Cn Ct Cr)/\cL K fd ps []:=by
 obtain⟨f,fd,q,M,F⟩:=k.sy;refine⟨f,fd,["self","row"],M,?_,F.binds λ_ _ _ _ _ _ us hl=>match us,hl with|[_,_],_=>r4⟩;obtain⟨oc,od,kV,doc,pm,an,bD,ct',gZ,rfl,lk,oC⟩:=F.ex;obtain⟨tf,tfd,tps,tM,tF,tb⟩:=MQ T (P:=P) (base:=base) k ct cr;have S:FnScope Ze ["self","row"] (aj (Ft (jm 155) 2)):=by refine⟨r4,r4,r4,?_,r4,?_,?_⟩<;>decide +kernel
 have nd:Ze.Nodup:=S.nd;have fa:Fn P w K mg base 4 "asked" lw:=yr T 64 r4;obtain⟨ac,fdc,psc,c1,c2,c3,c4⟩:=(yr T 59 r4:Fn P w K mg base 4 "check_number" bj).ex;obtain⟨aw,fdw,psw,w1,w2,w3,w4⟩:=(yr T 0 r4:Fn P w K mg base 15 "answer" bX).ex;obtain⟨ax,fdX,psX,y1,y2,y3,y4⟩:=(MN T cn (P:=P) (base:=base)).ex;have n6:mg "isinstance" = none:=nb T 6 r4;have n7:mg "len" = none:=nb T 7 r4;have n15:mg "str" = none:=nb T 15 r4;refine m7 (k:=15) (N:=Ze) lk oC S (λvs H Q E ⟨B,a,lv,ln,bk,kn,on,r,ev,_,_,_,_,_⟩=>by rw[ev];rfl) λA outer s H vs Q E D h=>?_;have hu:=gg D;obtain⟨B,a,lv,ln,bk,kn,on,r,rfl,e,⟨na,dx,L,ha,I⟩,il,O,U⟩:=h;have rep:=Wf (u:=V.ref a) e.2 il;have keep:∀ {N H':Hp},Ext B N H H'->H' a=some (.ins C dx (DH L kn on))/\N a=none:=λx=>O0 (K:=K) na ha x;have g0:∀ {W:Hp},au H W->Ext B B H W:=λs=>.grow e.1 s;refine⟨_,aq (fX (iu (dc (de kL n6 dR (ag (ah 1) (ag (AN n15 wB) aB))))) (bf (sW (R:=Oy Cw E .non) cw.ec cw.no r4 r4 (cw.mg_ T) dY)) c9)
   (aq (fX (dc (iC PySem.F.slot_str_startswith PySem.F.type_str_startswith Jo Al (ah 1) aC)) (bf (fH (jd (aF (i:=0) r4 (.inl r4)) k.cl tM tF (D.mono Z9) tb .nil o6 (av (kO (ah 1) (nW (de mB n7 kK (ag aC aB))) nV) aN)))) c9)
   (aq (cm (i:=2) nd r4 (Or.inl r4) (An (yo (MO T cw) (D.mono Z9) o6 (ag (ah 1) aB)) (eN fa D (ag (ah 1) aB))))
   (aq (ft (An (fw y1 (D.mono Z9) r4 y2 y3 y4 .nil o6 (av (fJ (aF (i:=0) r4 (.inl r4)) I9) (av (fJ (aF (i:=0) r4 (.inl r4)) I9) (av (ah 2) aN)))) (fw c1 (D.mono Z9) r4 c2 c3 c4 .nil (E:=λ_ _ _=>False) rl (av (fJ (aF (i:=0) r4 (.inl r4)) I9) (av (fJ (aF (i:=0) r4 (.inl r4)) I9) (av (ah 2) aN))))) I9)
   (aq (fX (bw (w6 hu) (cj (ah 2) aL) aC) (aq (lM (aF (i:=0) r4 (.inl r4)) (cj (ah 2) aL) I9) (bf (fH t4))) c9)
   (aq (fX (bw (w6 hu) (cj (ah 2) aL) aC) (aq (lM (aF (i:=0) r4 (.inl r4)) (cj (ah 2) aL) I9) (bf (fH t4))) c9)
   (bf (fH (fw w1 (D.mono Z9) r4 w2 w3 w4 .nil (E:=λ_ _ _=>False) rl (av (fJ (aF (i:=0) r4 (.inl r4)) I9) (av (fJ (aF (i:=0) r4 (.inl r4)) I9) (av (fJ (aF (i:=0) r4 (.inl r4)) I9) (av (ah 2) aN)))))))))))),?_⟩
 refine eX O λc1v e1 O=>?_;cases c1v with
 |true=>cases O;exact Xx e.1 rep e1 λW s1=>U .non W B (g0 s1) .non λz=>nomatch z
 |false=>
 rw[if_neg Z9]at O;refine Xy e.1 rep e1 λW s1=>?_;refine eX O λc2v e2 O=>?_;have X:=s1;have s1:=e.1.trans s1;cases c2v with
 |true=>
  rw[if_pos r4]at O;refine eX O λl el O=>?_;obtain⟨rr,er,rfl⟩:=oY O;refine Xx s1 rep e2 λH2 s2=>?_;have m:=g0 (X.trans s2);refine⟨.ref a,r4,a,dx,DH L kn on,r4,(keep m).1,r4,B,_,l.1,l.2,m.nh,rep,el,λv H3 Y t i3 _=>?_⟩;have b:=m.trans t;refine⟨Y,a,v,l.1,bk,kn,on,r4,⟨t.nh,e.2.mono t.bn⟩,⟨(keep b).2,dx,L,(keep b).1,I.mono t.bn⟩,i3,?_⟩;rw[er];cases rr with
  |ok bk'=>exact λH' N y z=>U H' N (.pre b y) z
  |text n=>exact U.into b
  |row d=>exact U.into b
 |false=>
 rw[if_neg Z9]at O;refine Xy s1 rep e2 λH2 s2=>?_;have m:=g0 (X.trans s2);clear e1 e2 s2;cases eA:lC [ln] with
 |some d=>
  rw[eA]at O;cases O
  exact .inl ⟨B,_,d.1,d.2,m.nh,rep,eA,U.into m⟩
 |none=>
 rw[eA]at O;obtain⟨⟨o,sb⟩,eS,O⟩:=oX O;refine .inr ⟨B,_,o,sb,m.nh,rep,eS,λv H3 Y t i3 _=>?_⟩;have b:=m.trans t;have Nx:∀ {N:Hp},au Y N->bQ K N [some (V.ref a),some lv,some v] [none,some (ln,false),some (o,false)]:=λsN=>O1 (e.2.mono (t.bn.trans sN)) (il.mono (t.bn.trans sN)) (i3.mono sN);have h3:=(keep b).1;cases eC:aH [bk,.int kn,o] with
 |some d=>
  rw[eC]at O;cases O
  refine .inl (Zc (QY r4 h3 k.cl k.n1 r4 (QY r4 h3 k.cl k.n2 r4 ⟨Y,_,o,false,b.nh,Nx (.refl _),r4,λv4 H4 N4 Z i4 _=>?_⟩)));have g:=b.trans Z;exact⟨N4,[bk,.int kn,o],d.1,d.2,⟨g.nh,e.2.mono g.bn⟩,.cons (I.mono g.bn) (.cons (.int _) (.cons i4 .nil)),eC,U.into g⟩
 |none=>
 rw[eC]at O;obtain⟨⟨cd,cb⟩,eD,O⟩:=oX O;refine .inr (Zc (QY r4 h3 k.cl k.n1 r4 (QY r4 h3 k.cl k.n2 r4 ⟨Y,_,o,false,b.nh,Nx (.refl _),r4,λv4 H4 N4 Z i4 _=>?_⟩)));have g:=b.trans Z;refine⟨N4,[bk,.int kn,o],cd,cb,⟨g.nh,e.2.mono g.bn⟩,.cons (I.mono g.bn) (.cons (.int _) (.cons i4 .nil)),eD,λv5 H5 N5 x5 i5 _=>?_⟩;have J:=g.trans x5;have G:=Nx (Z.bn.trans x5.bn);clear rep Nx eS eC eD h3 i4 i5 Z x5 g b m;refine eX O λc3v e3 O=>?_;cases c3v with
 |true=>
  rw[if_pos r4]at O;obtain⟨⟨n,nb⟩,en,O⟩:=oX O;cases n<;>try (cases O;done)
  cases O
  refine Xx J.nh G e3 λH6 s6=>?_;have j:=J.trans (.grow J.nh s6);refine Oz j.nh G en r4 k.cl k.n2 (by show 3<1000;decide) λH7 N7 x7=>⟨(keep (j.trans x7)).1,?_⟩;have c:=j.trans x7;exact U _ N7 (.put c (keep c).2) ⟨(keep c).2,dx,L,ae,I.mono c.bn⟩
 |false=>
 rw[if_neg Z9]at O;refine Xy J.nh G e3 λH6 s6=>?_;have j:=J.trans (.grow J.nh s6);refine eX O λc4v e4 O=>?_;cases c4v with
 |true=>
  rw[if_pos r4]at O;obtain⟨⟨n,nb⟩,en,O⟩:=oX O;cases n<;>try (cases O;done)
  cases O
  refine Xx j.nh G e4 λH7 s7=>?_;have c:=j.trans (.grow j.nh s7);refine Oz c.nh G en r4 k.cl k.n3 (by show 3<1000;decide) λH8 N8 x8=>⟨(keep (c.trans x8)).1,?_⟩;have p:=c.trans x8;exact U _ N8 (.put p (keep p).2) ⟨(keep p).2,dx,L,ae,I.mono p.bn⟩
 |false=>
  rw[if_neg Z9]at O;obtain⟨d,eE,rfl⟩:=oY O;refine Xy j.nh G e4 λH7 s7=>?_;have c:=j.trans (.grow j.nh s7);obtain⟨h7,-⟩:=keep c;refine Zc (QY r4 h7 k.cl k.n1 r4 (QY r4 h7 k.cl k.n2 r4 (QY r4 h7 k.cl k.n3 r4 ⟨N5,_,o,false,c.nh,G,r4,λv8 H8 N8 x8 i8 _=>?_⟩)));have p:=c.trans x8;exact⟨N8,[bk,.int kn,.int on,o],d.1,d.2,⟨p.nh,e.2.mono p.bn⟩,.cons (I.mono p.bn) (.cons (.int _) (.cons (.int _) (.cons i8 .nil))),eE,U.into p⟩
end
inductive LE (K:Frag)(C:Addr)(vs:List V)(H:Hp)(Q:VK):Prop|mk B a M td dx d b:vs=[.ref a,M]->(au B H/\Tb K B)->B a=none->H a=some (.ins C dx [])->Is K B M td->d4 [td]=some (d,b)->(∀H' N,vy a B N H H'->yu K C N H' a d 9999 0->Q .non H')->LE K C vs H Q
def Js (K:Frag)(C:Addr):Sp:=λvs H Q z=>LE K C vs H Q
abbrev Zf:List PySem.Str:=["self","text"]
section
variable {P:Program}{w:World}{K:Frag}{mg:SV}{base:Heap}(T:Tx w K mg)
include T
theorem MR {C:Addr}(k:Dk K C):∃f fd ps,Mk K C f/\dI P w K mg base (fj P w) 11 f fd ps (Js K C)/\cL K fd ps []:=by
 obtain⟨f,fd,q,M,F⟩:=k.nw;refine⟨f,fd,["self","text"],M,?_,F.binds λZ Z Z Z Z Z us hl=>match us,hl with|[_,_],_=>r4⟩;obtain⟨oc,od,kV,doc,pm,an,bD,t,gZ,rfl,lk,x⟩:=F.ex;have S:FnScope Zf ["self","text"] (aj (Ft (jm 155) 0)):=by refine⟨r4,r4,r4,?_,r4,?_,?_⟩<;>decide +kernel
 have nd:Zf.Nodup:=S.nd;have fr:Fn P w K mg base 10 "read" d4:=yr T 66 r4;refine m7 (k:=10) (N:=Zf) lk x S (λvs H Q E ⟨B,a,m,td,dx,d,b,ev,_,_,_,_,_,_⟩=>by rw[ev];rfl) λA outer s H vs Q E y h=>?_;obtain⟨B,a,m,td,dx,d,b,rfl,p,na,ha,it,er,j⟩:=h;refine⟨_,aq (lM (aF (i:=0) r4 (.inl r4)) (eN fr y (ag (ah 1) aB)) I9)
  (aq (lM (aF (i:=0) r4 (.inl r4)) (kJ (kc T 1 r4:KC K mg "LAST_DAY" gN)) I9)
  (bf (lM (aF (i:=0) r4 (.inl r4)) FQ I9))),?_⟩
 have rep:bQ K B [some (V.ref a),some m] [none,some (td,false)]:=⟨p.2,λi d b z=>by
  rcases i with Z|Z|i
  .cases z
  .cases z;exact⟨m,r4,it⟩
  .cases z⟩
 refine⟨B,_,d,b,p.1,rep,er,λv r N1 O i1 Z=>?_⟩;have l:N1 a=none:=by
  cases z:N1 a with
  |none=>rfl
  |some o=>
   rcases O.new a o z with q|q
   .rw[na]at q;cases q
   .rw[ha]at q;cases q
 refine⟨.ref a,r4,a,C,dx,[],r4,O.hh _ _ ha,k.cl,k.n1,(by show 0<1000;decide),?_⟩;have U:∀ {o:HO},au N1 (upd r a o):=λb u e=>by rw[af (λz=>by rw[z,l]at e;cases e)];exact O.nh b u e
 refine⟨N1,_,.int 9999,false,U,rep.mono O.bn,r4,λD H2 N2 c i2 Z=>?_⟩;cases i2
 have h2:=c.hh _ _ (ae:upd r a _ a=_);have g:N2 a=none:=by
  cases z:N2 a with
  |none=>rfl
  |some o=>
   rcases c.new a o z with q|q
   .rw[l]at q;cases q
   .rw[ae]at q;cases q
 refine⟨.ref a,r4,a,C,dx,_,r4,h2,k.cl,k.n2,(by show 1<1000;decide),?_⟩;refine⟨.ref a,r4,a,C,dx,_,r4,ae,k.cl,k.n3,(by show 2<1000;decide),?_⟩;refine j _ N2 ⟨λb u n e=>?_,O.bn.trans c.bn,λb u e=>?_,λb u e=>?_⟩ ⟨g,dx,v,ae,i1.mono c.bn⟩
 .rw[af n,af n];exact c.hh b u (by rw[af n];exact O.hh b u e)
 .have n:b≠a:=λz=>by rw[z,g]at e;cases e
  rw[af n,af n];exact c.nh b u e
 .have n:b≠a:=λz=>by rw[z,g]at e;cases e
  rcases c.new b u e with q|q
  .exact O.new b u q
  .rw[af n]at q;exact .inr (O.hh.free q)
end
structure Er (K:Frag)(cl:Nat->Addr)(S:Addr):Prop where
 w:Cl0 K "NoWord" (cl 0)
 n:Cl0 K "NoNumber" (cl 1)
 t:Raw K "NoText" (gQ (jm 3)) (cl 2)
 r:Raw K "NoRegister" (gQ (jm 2)) (cl 3)
 se:PySem.W.nsIn K mainGlobals "SealError" = some (some (.ref S))
 ki:∀i j,i<4->j<4->PySem.W.kitOne K (.ref (cl i)) (.ref (cl j))=some (decide (i=j))
 kv:∀i,i<4->PySem.W.kitOne K (.ref (cl i)) (.type "ValueError")=some true
 ex:∀i,i<4->PySem.W.exmOne K (.ref (cl i)) (.ref S)=some true
noncomputable def bY (bk:D)(kn on:Int)(ln:D):Option D:=(fm bk kn on ln).bind λr=>match r with
 |.word _=>some (.tup [.str "word",.non])
 |.number _=>some (.tup [.str "number",.non])
 |.text n=>some (.tup [.str "text",n.1])
 |.row d=>some (.tup [.str "row",d.1])
 |_=>none
inductive LT (K:Frag)(C:Addr)(vs:List V)(H:Hp)(Q:VK):Prop|mk B a M ln bk kn on d:vs=[.ref a,M]->(au B H/\Tb K B)->yu K C B H a bk kn on->Is K B M ln->bY bk kn on ln=some d->(∀v H' N,Ext B N H H'->Is K N v d->Q v H')->LT K C vs H Q
def vk (K:Frag)(C:Addr):Sp:=λvs H Q z=>LT K C vs H Q
def yw {B N2 H H2 H':Hp}{p p2:Addr}{o1:HO}{bs:LV}(a:au B H)(hp:H p=none)(O:Ext B N2 (upd H p (.lst [])) H2)(U:au H2 H')(M:H' p2=none):Ext B (upd N2 p2 (.lst bs)) H (upd (upd H' p2 o1) p2 (.lst bs)):=by
 have s1:=((bL hp).trans O.hh).trans U;refine⟨λb u e=>?_,λb u e=>?_,λb u e=>?_,λb u e=>?_⟩
 .have n:b≠p2:=λz=>by have:=s1 b u e;rw[z,M]at this;cases this
  rw[af n,af n];exact s1 b u e
 .have n:b≠p2:=λz=>by have:=O.bn b u e;rw[z,(O.nh.trans U).free M]at this;cases this
  rw[af n];exact O.bn b u e
 .by_cases n:b=p2
  .subst n;rw[ae]at e |-;exact e
  .rw[af n]at e;rw[af n,af n];exact U b u (O.nh b u e)
 .by_cases n:b=p2
  .subst n;exact .inr (s1.free M)
  .rw[af n]at e;exact(O.new b u e).imp_right (bL hp).free
def Wh:bootBuiltins "ValueError" = some (.type "ValueError"):=O9
noncomputable abbrev Wi:List PySem.Str:=["_law_desk","_law_row","_law_looks_here","_law_at","e"]
section
variable {P:Program}{w:World}{K:Frag}{mg:SV}{base:Heap}(T:Tx w K mg)
include T
theorem Jt {C S:Addr}{cl:Nat->Addr}(k:Dk K C)(er:Er K cl S)(dk:nD K "_law_looks" (jm 161))(nv:mg "ValueError" = none):FnS P w K mg base 17 "_law_looks" (vk K C):=by
 obtain⟨sf,sfd,sps,sM,sF,sb⟩:=Ao T (P:=P) (base:=base) k er.w er.n er.t er.r;have l:mg "isinstance" = none:=nb T 6 r4;have n5:mg "int" = none:=nb T 5 r4;have mS:mg "SealError" = some (.ref S):=let ⟨_,X,G⟩:=T.hX;mg_of X G er.se;have m0:mg "NoWord" = some (.ref (cl 0)):=er.w.mg_ T;have m1:mg "NoNumber" = some (.ref (cl 1)):=er.n.mg_ T;have m2:mg "NoText" = some (.ref (cl 2)):=let ⟨_,X,G⟩:=T.hX;mg_of X G er.t.nm;have m3:mg "NoRegister" = some (.ref (cl 3)):=let ⟨_,X,G⟩:=T.hX;mg_of X G er.r.nm;have ei:∀i,i<4->Ei K (cl i)
  |0,_=>er.w.ei
  |1,_=>er.n.ei
  |2,_=>er.t.ei
  |3,_=>er.r.ei
 have na:∀i,i=2\/i=3->PySem.W.findIn K (.ref (cl i)) "at" = some none:=λi h=>by
  rcases h with rfl|rfl
  .exact er.t.na
  .exact er.r.na
 refine dk.fqS (k:=16) T.hX Wi 2 (λvs H Q E ⟨B,a,m,ln,bk,kn,on,d,ev,_,_,_,_,_⟩=>by rw[ev];rfl) λ{f bD A outer s H E vs Q} nd hr h=>?_;have hu:=gg hr;have J:2<=sizeLine:=aQ Z9;obtain⟨B,a,m,ln,bk,kn,on,d,rfl,x,⟨Z,dx,bv,ha,ib⟩,il,I,q⟩:=h;refine eX I λr er0 I=>?_;have up:∀ {p:Addr},H p=none->(upd H p (.lst [])) a=some (.ins C dx (DH bv kn on)):=λ{p} hp=>bL hp _ _ ha;have w0:∀(i:Nat)(n:D×Bool),(i=0\/i=1)->d=.tup [.str (if i=0 then "word" else "number"),.non]->(∀ {B:Hp}{H:Hp}{Q:VK}{E:XK},Fin K B H n.1 n.2 (Oy (cl i) E)->Jr K C (cl 0) (cl 1) (cl 2) (cl 3) B H a bk kn on Q E r) ->
   ∃t,kj (bK oR P w K mg base Wi "_law_looks" (aj (jm 161)) f bD A outer s H E) (aK (jm 161)) t/\t { nx:=λ_ H'=>Q .non H',rt:=Q } (L2.dD Wi [.ref a,m]) H:=by
  intro i n hi ed hs;subst ed;have h4:i<4:=N9
  refine⟨_,aq (cm (i:=2) nd r4 (Or.inl r4) (oM aN)) (aq (cm (i:=3) nd r4 (Or.inl r4) yF)
   (aq (DG (C:=cl i) (j:=4) (aF (i:=0) r4 (.inl r4)) k.cl sM sF (hr.mono Z9) sb (av (aF (i:=1) r4 (.inl r4)) aN) r4 r4 nd r4 r4 (λA' E'=>aq (cm (i:=2) nd r4 (Or.inl r4) (oM (av (fP (i:=4) (ei i h4) l I9 (by exact .inl r4) (cO (v:=.ref (cl 0)) I9 m0 I9) (λ_ h=>h) (er.ki i 0 h4 Z9)) (av (fP (i:=4) (ei i h4) l I9 (by exact .inl r4) (cO (v:=.ref (cl 1)) I9 m1 I9) (λ_ h=>h) (er.ki i 1 h4 Z9)) (av (fP (i:=4) (ei i h4) l I9 (by exact .inl r4) (cO (v:=.ref (cl 2)) I9 m2 I9) (λ_ h=>h) (er.ki i 2 h4 Z9)) (av (fP (i:=4) (ei i h4) l I9 (by exact .inl r4) (cO (v:=.ref (cl 3)) I9 m3 I9) (λ_ h=>h) (er.ki i 3 h4 Z9)) aN))))))
    (aq (ft (show PE _ _ (Yj K "list" nN _ _)from oQ plainAttrs_list PySem.F.slot_list_append PySem.F.type_list_append je (aF (i:=2) I9 (by exact .inl r4)) (av (fP (i:=4) (ei i h4) l I9 (by exact .inl r4) (t6 (v:=.ty "ValueError") I9 nv Wh I9) (λ_ h=>h) (er.kv i h4) I9 Z9 Z9 I9 I9 I9) aN I9) I9 I9 I9 I9 r4) I9)
    (bf (cm (i:=3) nd r4 (Or.inl r4) (aF (i:=4) r4 (.inl r4)))))) r4 mS (er.ex i h4))
   (aq (fX (nB (kH (bw (jx hu) (yt (ah 2) gc) aL) (gA (iu (dc (cj (ah 2) aL)))))) (bf kr) c9)
   (aq (fX (nB (kH (dc (cj (ah 2) aL)) (gA (dc (cj (ah 2) aL))))) (bf kr) c9) (bf (fH (fK (ag (cj (jK (ag aC (ag aC aB))) (dU Ha n5 wA (ag (cj (ah 2) aL) aB))) (ag jJ aB))))))))),?_⟩
  refine⟨uO _,λp hp=>⟨.ref a,r4,a,dx,DH bv kn on,r4,up hp,r4,m,r4,B,a,m,ln,bk,kn,on,r,r4,⟨x.1.trans (bL hp),x.2⟩,⟨Z,dx,bv,up hp,ib⟩,il,er0,hs λv H2 N2 x2 i2 _=>?_⟩⟩;intro e he;refine⟨r4,(λ_ z=>nomatch z),λc O=>?_⟩;have sH:au H2 (upd H2 e (XO e (cl i) none)):=bL he;have R:Aj (upd H2 e (XO e (cl i) none)) none:=λ_ z=>nomatch z;generalize hH:upd H2 e (XO e (cl i) none)=L at *;have hx:∀ {σ:L2.St},σ[4]? = some (some (V.ref c))->HX (cl i) 4 σ L:=λz=>⟨c,none,z,O,R⟩;refine⟨hx r4,hx r4,hx r4,hx r4,aQ (show 4<=100000 by decide),λp2 U=>?_⟩;have ne:c≠p2:=λz=>by rw[z,U]at O;cases O
  have N:∀ {o:HO}{σ:L2.St},σ[4]? = some (some (V.ref c))->HX (cl i) 4 σ (upd L p2 o):=λz=>⟨c,none,z,by rw[af ne];exact O,λd z=>let ⟨fs,y⟩:=R d z;⟨fs,bL U _ _ y⟩⟩;refine⟨.ref p2,r4,.inl ⟨r4,_,.of ae⟩,N r4,p2,_,_,r4,r4,ae,Nat.lt_of_succ_le (aQ (show 5<=100000 by decide)),?_⟩;refine⟨.ref c,r4,?_⟩;have g:=yw (o1:=.lst [.bl (decide (i=0)),.bl (decide (i=1)),.bl (decide (i=2)),.bl (decide (i=3))]) (bs:=[.bl (decide (i=0)),.bl (decide (i=1)),.bl (decide (i=2)),.bl (decide (i=3)),.bl true]) x.1 hp x2 sH U;have rep:bQ K (upd N2 p2 (.lst [.bl (decide (i=0)),.bl (decide (i=1)),.bl (decide (i=2)),.bl (decide (i=3)),.bl true])) [some (V.ref a),some m,some (V.ref p2),some (V.ref c),none] [none,none,some (.lst [.bl (decide (i=0)),.bl (decide (i=1)),.bl (decide (i=2)),.bl (decide (i=3)),.bl true],false),none,none]:=⟨x.2.mono g.bn,λj d b z=>by
   rcases j with _|_|_|_|_|j<;>cases z
   exact⟨.ref p2,r4,.lst (.of ae) (.cons (.bl _) (.cons (.bl _) (.cons (.bl _) (.cons (.bl _) (.cons (.bl _) .nil)))))⟩⟩
  refine⟨_,_,false,g.nh,rep,by rcases hi with rfl|rfl<;>decide +kernel,λH6 Y=>?_⟩
  show(if false=true then _ else _);rw[if_neg Z9];refine⟨_,_,false,g.nh.trans Y,rep,by rcases hi with rfl|rfl<;>decide +kernel,λH7 s7=>?_⟩
  show(if false=true then _ else _);rw[if_neg Z9];have X7:=g.trans (.grow g.nh (Y.trans s7));exact⟨_,_,.tup [.str (if i=0 then "word" else "number"),.non],false,X7.nh,rep,(by rcases hi with rfl|rfl<;>simp[J]<;>rfl),λv8 H8 N8 x8 i8 _=>q v8 H8 N8 (X7.trans x8) i8⟩
 have w1:∀(i:Nat)(n:D×Bool),(i=2\/i=3)->d=.tup [.str (if i=2 then "text" else "row"),n.1]->(∀ {B:Hp}{H:Hp}{Q:VK}{E:XK},Fin K B H n.1 n.2 (RE E (cl i) "at")->Jr K C (cl 0) (cl 1) (cl 2) (cl 3) B H a bk kn on Q E r) ->
   ∃t,kj (bK oR P w K mg base Wi "_law_looks" (aj (jm 161)) f bD A outer s H E) (aK (jm 161)) t/\t { nx:=λ_ H'=>Q .non H',rt:=Q } (L2.dD Wi [.ref a,m]) H:=by
  intro i n hi ed hs;subst ed;have h4:i<4:=N9
  refine⟨_,aq (cm (i:=2) nd r4 (Or.inl r4) (oM aN)) (aq (cm (i:=3) nd r4 (Or.inl r4) yF)
   (aq (DG (C:=cl i) (j:=4) (aF (i:=0) r4 (.inl r4)) k.cl sM sF (hr.mono Z9) sb (av (aF (i:=1) r4 (.inl r4)) aN) r4 r4 nd r4 r4 (λA' E'=>aq (cm (i:=2) nd r4 (Or.inl r4) (oM (av (fP (i:=4) (ei i h4) l I9 (by exact .inl r4) (cO (v:=.ref (cl 0)) I9 m0 I9) (λ_ h=>h) (er.ki i 0 h4 Z9)) (av (fP (i:=4) (ei i h4) l I9 (by exact .inl r4) (cO (v:=.ref (cl 1)) I9 m1 I9) (λ_ h=>h) (er.ki i 1 h4 Z9)) (av (fP (i:=4) (ei i h4) l I9 (by exact .inl r4) (cO (v:=.ref (cl 2)) I9 m2 I9) (λ_ h=>h) (er.ki i 2 h4 Z9)) (av (fP (i:=4) (ei i h4) l I9 (by exact .inl r4) (cO (v:=.ref (cl 3)) I9 m3 I9) (λ_ h=>h) (er.ki i 3 h4 Z9)) aN))))))
    (aq (ft (show PE _ _ (Yj K "list" nN _ _)from oQ plainAttrs_list PySem.F.slot_list_append PySem.F.type_list_append je (aF (i:=2) I9 (by exact .inl r4)) (av (fP (i:=4) (ei i h4) l I9 (by exact .inl r4) (t6 (v:=.ty "ValueError") I9 nv Wh I9) (λ_ h=>h) (er.kv i h4) I9 Z9 Z9 I9 I9 I9) aN I9) I9 I9 I9 I9 r4) I9)
    (bf (cm (i:=3) nd r4 (Or.inl r4) (aF (i:=4) r4 (.inl r4)))))) r4 mS (er.ex i h4))
   (aq (fX (nB (kH (bw (jx hu) (yt (ah 2) gc) aL) (gA (iu (dc (cj (ah 2) aL)))))) (bf kr) c9)
   (aq (fX (nB (kH (dc (cj (ah 2) aL)) (gA (dc (cj (ah 2) aL))))) (bf (fH (tE (av (cj (jK (ag aC (ag aC aB))) (dU Ha n5 wA (ag (cj (ah 2) aL) aB))) (av (VZ (ei i h4) (na i hi) (aF (i:=3) r4 (.inl r4))) aN))))) c9) (bf kr))))),?_⟩
  refine⟨uO _,λp hp=>⟨.ref a,r4,a,dx,DH bv kn on,r4,up hp,r4,m,r4,B,a,m,ln,bk,kn,on,r,r4,⟨x.1.trans (bL hp),x.2⟩,⟨Z,dx,bv,up hp,ib⟩,il,er0,hs λv H2 N2 x2 i2 _=>?_⟩⟩;intro e M t0 h1 h2 h3;have sH:au H2 (upd (dH H2 e (cl i) t0 M "at" v) e (XO e (cl i) (some M))):=Fm h1 h2;have hdx:(upd (dH H2 e (cl i) t0 M "at" v) e (XO e (cl i) (some M))) M=some (.xd [("at",v)]):=MF h3;have R:Aj (upd (dH H2 e (cl i) t0 M "at" v) e (XO e (cl i) (some M))) (some M):=λ_ z=>by cases z;exact⟨_,hdx⟩
  refine⟨r4,R,λc O=>?_⟩;generalize hH:(upd (dH H2 e (cl i) t0 M "at" v) e (XO e (cl i) (some M)))=L at *;have hx:∀ {σ:L2.St},σ[4]? = some (some (V.ref c))->HX (cl i) 4 σ L:=λz=>⟨c,(some M),z,O,R⟩;refine⟨hx r4,hx r4,hx r4,hx r4,aQ (show 4<=100000 by decide),λp2 U=>?_⟩;have ne:c≠p2:=λz=>by rw[z,U]at O;cases O
  have N:∀ {o:HO}{σ:L2.St},σ[4]? = some (some (V.ref c))->HX (cl i) 4 σ (upd L p2 o):=λz=>⟨c,(some M),z,by rw[af ne];exact O,λd z=>let ⟨fs,y⟩:=R d z;⟨fs,bL U _ _ y⟩⟩;refine⟨.ref p2,r4,.inl ⟨r4,_,.of ae⟩,N r4,p2,_,_,r4,r4,ae,Nat.lt_of_succ_le (aQ (show 5<=100000 by decide)),?_⟩;refine⟨.ref c,r4,?_⟩;have g:=yw (o1:=.lst [.bl (decide (i=0)),.bl (decide (i=1)),.bl (decide (i=2)),.bl (decide (i=3))]) (bs:=[.bl (decide (i=0)),.bl (decide (i=1)),.bl (decide (i=2)),.bl (decide (i=3)),.bl true]) x.1 hp x2 sH U;have rep:bQ K (upd N2 p2 (.lst [.bl (decide (i=0)),.bl (decide (i=1)),.bl (decide (i=2)),.bl (decide (i=3)),.bl true])) [some (V.ref a),some m,some (V.ref p2),some (V.ref c),none] [none,none,some (.lst [.bl (decide (i=0)),.bl (decide (i=1)),.bl (decide (i=2)),.bl (decide (i=3)),.bl true],false),none,none]:=⟨x.2.mono g.bn,λj d b z=>by
   rcases j with _|_|_|_|_|j<;>cases z
   exact⟨.ref p2,r4,.lst (.of ae) (.cons (.bl _) (.cons (.bl _) (.cons (.bl _) (.cons (.bl _) (.cons (.bl _) .nil)))))⟩⟩
  refine⟨_,_,false,g.nh,rep,by rcases hi with rfl|rfl<;>decide +kernel,λH6 Y=>?_⟩
  show(if false=true then _ else _);rw[if_neg Z9];refine⟨_,_,true,g.nh.trans Y,rep,by rcases hi with rfl|rfl<;>decide +kernel,λH7 s7=>?_⟩
  show(if true=true then _ else _);rw[if_pos r4];have X7:=g.trans (.grow g.nh (Y.trans s7));refine⟨_,_,.str (if i=2 then "text" else "row"),false,X7.nh,rep,(by rcases hi with rfl|rfl<;>simp[J]<;>rfl),λv8 H8 N8 x8 i8 _=>?_⟩
  have s8:au (upd (upd L p2 (.lst [.bl (decide (i=0)),.bl (decide (i=1)),.bl (decide (i=2)),.bl (decide (i=3))])) p2 (.lst [.bl (decide (i=0)),.bl (decide (i=1)),.bl (decide (i=2)),.bl (decide (i=3)),.bl true])) H8:=(Y.trans s7).trans x8.hh;have h3':∀ {b u},L b=some u->H8 b=some u:=λ{b u} z=>s8 b u (by
   have n:b≠p2:=λy=>by rw[y,U]at z;cases z
   rw[af n,af n];exact z)
  have X8:=X7.trans x8;exact⟨.ref c,r4,c,M,v,r4,h3' O,h3' hdx,J,λt ht=>q _ _ _ (X8.trans (.laid X8.nh ht)) (.tup (.of ae) (.cons (i8.mono (Ext.laid X8.nh ht).bn) (.cons (((i2.mono (bL ((x2.nh.trans sH).free U))).mono x8.bn).mono (Ext.laid X8.nh ht).bn) .nil)))⟩
 cases r with
 |ok _ _ _=>cases I
 |ans _=>cases I
 |word n=>cases I;exact w0 0 n (.inl r4) r4 λh=>h
 |number n=>cases I;exact w0 1 n (.inr r4) r4 λh=>h
 |text n=>cases I;exact w1 2 n (.inl r4) r4 λh=>h
 |row n=>cases I;exact w1 3 n (.inr r4) r4 λh=>h
end
mutual
def aU:D->Bool
 |.tup ds=>c7 ds
 |.lst ds=>c7 ds
 |.dk _ ds=>c7 ds
 |.dt _ ds=>c7 ds
 |.ob _ _ _ _=>false
 |_=>true
def c7:LD->Bool
 |[]=>true
 |d::ds=>aU d && c7 ds
end
def Ap(h:c7 (d::ds)=true):aU d=true/\c7 ds=true:=by exact Bool.and_eq_true_iff.mp h
theorem jt {α:Type}f(h:∀x,aU (f x)=true):∀l:List α,c7 (l.map f)=true
 |[]=>r4
 |x::l=>by exact Bool.and_eq_true_iff.mpr ⟨h x,jt f h l⟩
abbrev wo (H:Hp)(a:Addr):Hp:=cE H λb=>b=a
def DI{a b:Addr}{o:HO}(e:H b=some o)(n:b≠a):wo H a b=some o:=(bF (P:=λb=>b=a) n).trans e
section
variable {K:Frag}{H:Hp}{a C dx:Addr}{fs:List (PySem.Str×V)}(ha:H a=some (.ins C dx fs))
include ha
theorem Aq(e:H b=some o)(n:∀c d f,o≠.ins c d f):wo H a b=some o:=DI e λz=>by rw[z,ha]at e;cases e;exact n _ _ _ r4
theorem DJ{o:HO}(n:∀c d f,o≠.ins c d f):Rd H b o->Rd (wo H a) b o
 |.inl h=>.inl (Aq ha h n)
 |.inr ⟨p,h⟩=>.inr ⟨p,Aq ha h λy y y z=>nomatch z⟩
theorem Ju (t:Tb K H):Tb K (wo H a):=λx hx c P q=>Aq ha (t x hx c P q) λy y y z=>nomatch z
end
section
variable {K:Frag}{H H':Hp}
theorem Is.keepO (M:∀a vs,dM K H a vs->dM K H' a vs)(O:∀a vs,dj K H a vs->dj K H' a vs)(U:∀a ay ob,H a=some (.dK ay ob)->H' a=some (.dK ay ob))(c:∀a ay,H a=some (.dT ay)->H' a=some (.dT ay)){v:V}{d:D}(h:Is K H v d):aU d=true->Is K H' v d:=
 Is.rec (motive_1:=λv d _=>aU d=true->Is K H' v d) (motive_2:=λv d _=>c7 d=true->IsL K H' v d) (λ_=>.non) (λb _=>.bl b) (λi _=>.int i) (λx _=>.str x) (λx _=>.ty x) (λh _ k n=>.tup (M _ _ h) (k n)) (λh _ k n=>.lst (O _ _ h) (k n)) (λh r _ k n=>.dk (U _ _ _ h) r (k n)) (λh r _ k n=>.dt (c _ _ h) r (k n)) (λ_ _ _ _ n=>nomatch (show false=true from n)) (λ_=>.nil) (λ_ _ h k n=>.cons (h (Ap n).1) (k (Ap n).2)) h
theorem IsL.keepO (M:∀a vs,dM K H a vs->dM K H' a vs)(O:∀a vs,dj K H a vs->dj K H' a vs)(U:∀a ay ob,H a=some (.dK ay ob)->H' a=some (.dK ay ob))(b:∀a ay,H a=some (.dT ay)->H' a=some (.dT ay)){c:LV}{q:LD}(h:IsL K H c q):c7 q=true->IsL K H' c q:=h.ind (λ_=>.nil) λi _ k n=>.cons (Is.keepO M O U b i (Ap n).1) (k (Ap n).2)
def Is.wo{fs:List (PySem.Str×V)}(ha:H a=some (.ins C dx fs)){v:V}{d:D}(i:Is K H v d)(n:aU d=true):Is K (wo H a) v d:=
 Is.keepO (λy y h=>h.imp_left (DJ ha λy y y z=>nomatch z)) (λy y h=>h.imp_left (DJ ha λy y y z=>nomatch z)) (λy y y h=>Aq ha h λy y y z=>nomatch z) (λy y h=>Aq ha h λy y y z=>nomatch z) i n
def IsL.wo{fs:List (PySem.Str×V)}(ha:H a=some (.ins C dx fs)){v:LV}{d:LD}(i:IsL K H v d)(n:c7 d=true):IsL K (wo H a) v d:=
 IsL.keepO (λy y h=>h.imp_left (DJ ha λy y y z=>nomatch z)) (λy y h=>h.imp_left (DJ ha λy y y z=>nomatch z)) (λy y y h=>Aq ha h λy y y z=>nomatch z) (λy y h=>Aq ha h λy y y z=>nomatch z) i n
end
def Jv(M:au B H)(ha:B a=some o)(x:Ext (wo B a) N H H'):au N (upd N a o)/\Ext B (upd N a o) H H':=by
 have na:N a=none:=by
  cases z:N a with
  |none=>rfl
  |some u=>
   rcases x.new a u z with q|q
   .exact absurd r4 (kC q).1
   .rw[M _ _ ha]at q;cases q
 have s:au N (upd N a o):=λb u e=>by rw[af λz=>by rw[z,na]at e;cases e];exact e
 refine⟨s,x.hh,λb u e=>?_,λb u e=>?_,λb u e=>?_⟩
 .by_cases z:b=a
  .subst z;rw[ha]at e;cases e;exact ae
  .exact s _ _ (x.bn _ _ (DI e z))
 .by_cases z:b=a
  .subst z;rw[ae]at e;cases e;exact x.hh _ _ (M _ _ ha)
  .rw[af z]at e;exact x.nh _ _ e
 .by_cases z:b=a
  .subst z;rw[ae]at e;cases e;exact .inl ha
  .rw[af z]at e;exact(x.new _ _ e).imp_left λq=>aP _ _ q
noncomputable abbrev Zg:List PySem.Str:=["book","known","on"]
noncomputable abbrev fQ (C a:Addr)(bk:D)(kn on:Int):D:=.ob a C Zg [bk,.int kn,.int on]
def Ar {K:Frag}(i:Is K H v (fQ C a bk kn on)):v=.ref a/\∃dx M,H a=some (.ins C dx (DH M kn on))/\Is K H M bk:=by
 cases i with
 |ob h hl hs=>
  cases hs with|cons h1 hs=>cases hs with|cons h2 hs=>cases hs with|cons h3 hs=>
  cases h2;cases h3
  exact⟨r4,_,_,h,h1⟩
def As {K:Frag}(O:au B H)(nb:aU bk=true)(i:Is K B v (fQ C a bk kn on)):v=.ref a/\(∃dx M,B a=some (.ins C dx (DH M kn on)))/\yu K C (wo B a) H a bk kn on:=by
 obtain⟨e,dx,M,h,U⟩:=Ar i;exact⟨e,⟨dx,M,h⟩,tV r4,dx,M,O _ _ h,Is.wo h U nb⟩
noncomputable def qC (C:Addr)(f:D->Int->Int->D->Option D):D->D->OB
 |.ob _ c ns [bk,.int kn,.int on],row=>if c=C/\ns=Zg/\aU bk=true/\aU row=true then (f bk kn on row).map λd=>(d,false)else none
 |_,_=>none
noncomputable def gR (bk:D)(kn on:Int)(row:D):Option D:=match fm bk kn on row with
 |some (.ans d)=>some d.1
 |_=>none
abbrev jW (C:Addr):D->D->OB:=qC C gR
abbrev gS (C:Addr):D->D->OB:=qC C bY
set_option tactic.hygienic true in
def sZ(h:qC C f x y=some (d,b)):∃a bk kn on,x=fQ C a bk kn on/\aU bk=true/\aU y=true/\f bk kn on y=some d/\b=false:=by
 rcases x with _|_|_|_|_|_|_|_|_|⟨a,c,ns,r⟩<;>try (cases h;done)
 rcases r with _|⟨bk,_|⟨k,r⟩⟩<;>try (cases h;done)
 rcases k with _|_|kn|_|_|_|_|_|_|_<;>try (cases h;done)
 rcases r with _|⟨k,r⟩<;>try (cases h;done)
 rcases k with _|_|on|_|_|_|_|_|_|_<;>try (cases h;done)
 cases r<;>try (cases h;done)
 by_cases e:c=C/\ns=Zg/\aU bk=true/\aU y=true
 .replace h:=(if_pos e).symm.trans h;obtain⟨rfl,rfl,h1,h2⟩:=e;refine eB h λd' e h=>?_;cases h
  exact⟨a,bk,kn,on,r4,h1,h2,e,r4⟩
 .cases (if_neg e).symm.trans h
def Jw(h1:aU bk=true)(h2:aU y=true):qC C f (fQ C a bk kn on) y=(f bk kn on y).map λd=>(d,false):=by
 exact if_pos ⟨r4,r4,h1,h2⟩
def bp{f:D->Int->Int->D->Option D}{bk y d:D}{kn on:Int}(h1:aU bk=true)(h2:aU y=true)(h:f bk kn on y=some d):qC C f (fQ C a bk kn on) y=some (d,false):=(Jw h1 h2).trans (by rw[h];rfl)
def nu:dq (fj X.prog X.w) X λz z z=>False:=λpp M H s ev s' I h=>by
 refine cX λG g=>?_;obtain⟨z,z,z,z,z,z,z,z,z,z,z,z,z,z,q⟩:=h;exact q.elim
section
variable {X:Cx}{C S:Addr}{cl:Nat->Addr}{ea eb:Expr}{fa fb:FE}{p pos aW aO:Pos}
def iZ (F:FnS X.prog X.w X.K X.mg X.base 17 "_law_looks" (vk X.K C))(f:bB 17 X.A)(ha:JE X ea fa)(hb:JE X eb fb)(g:autoParam (Gl X "_law_looks") I9._auto_1)(hs:autoParam (bE ea [eb] X.env) I9._auto_1)(U:autoParam (bE eb [] X.env) I9._auto_1)(hpl:autoParam (dL pos [eb] X.env) I9._auto_1):
  JE X (.Call (.Name "_law_looks" p) [ea,eb] [] pos) (f2 (gS C) fa fb):=by
 refine cX λW Y=>?_;obtain⟨ad,fd,ps,i,hm,hk,j⟩:=F.ex;apply Y;refine PE.to (fw i f g hm hk j .nil (E:=E0) rl (av ha (av hb aN U) hs) Z9 hs hpl) λσ H Q q=>?_;refine cX λW Y=>?_;obtain⟨B,ρ,d,b,s,r,e,q⟩:=q;refine eX e λx ex e=>?_;refine eX e λy l e=>?_;apply Y;obtain⟨a,bk,kn,on,m,n1,n2,e2,rfl⟩:=sZ e;refine⟨B,ρ,x.1,x.2,s,r,ex,λv I N1 O i1 Z=>⟨N1,ρ,y.1,y.2,O.nh,r.mono O.bn,l,λn H2 N2 M i2 Z=>?_⟩⟩;rw[m]at i1;obtain⟨rfl,⟨dx,J,h⟩,k⟩:=As M.nh n1 (i1.mono M.bn);refine⟨wo N2 a,a,n,y.1,bk,kn,on,d,r4,⟨aP.trans M.nh,Ju h ((r.tb.mono O.bn).mono M.bn)⟩,k,Is.wo h i2 n2,e2,λo t L u D=>?_⟩;obtain⟨G,c⟩:=Jv M.nh h u;exact q o t _ ((O.trans M).trans c) (D.mono G) λz=>nomatch z
end
section
variable {P:Program}{w:World}{K:Frag}{mg:SV}{base:Heap}
structure SayOk (P:Program)(w:World)(K:Frag)(mg:Str->Option Value)(base:Heap)(C Cw Cn Ct Cr:Addr):Prop where
 cl:Cls K C
 ex:∃f fd ps,qY K C "say" f/\dI P w K mg base (fj P w) 16 f fd ps (yv K C Cw Cn Ct Cr)/\cL K fd ps []
end
section
variable {X:Cx}{C Cw Cn Ct Cr:Addr}{ea eb:Expr}{fa fb:FE}{p pos aW aO:Pos}{pl:Sem Bool}
def jX (F:SayOk X.prog X.w X.K X.mg X.base C Cw Cn Ct Cr)(i:bB 16 X.A)(ha:JE X ea fa)(hb:JE X eb fb)(U:autoParam (bE eb [] X.env) I9._auto_1)(hpl:autoParam (dL pos [] X.env) I9._auto_1)
  (j:autoParam (eval (.Call (.Attribute ea "say" aW) [eb] [] pos) X.env=(do
   let ov <-eval ea X.env
   standAt aW.atName
   let (f,first) <-holding [ov] (getMethod ov "say" pl)
   callWith pos f first (backTo pos (starEach [eb] X.env)) (backToKw pos (keywordEach [] X.env)))) I9._auto_1):
  JE X (.Call (.Attribute ea "say" aW) [eb] [] pos) (f2 (jW C) fa fb):=by
 obtain⟨f,fd,ps,M,l,m⟩:=F.ex;refine PE.to (jd ha F.cl M l i m .nil nu (av hb aN U) U hpl j) λσ H Q q=>?_;refine cX λW Y=>?_;obtain⟨B,ρ,d,b,s,r,e,q⟩:=q;refine eX e λx ex e=>?_;refine eX e λy n e=>?_;apply Y;obtain⟨a,bk,kn,on,o,n1,n2,e2,rfl⟩:=sZ e;refine⟨B,ρ,x.1,x.2,s,r,ex,λv N N1 c i1 _=>?_⟩;rw[o]at i1;obtain⟨rfl,dx,P,h,R⟩:=Ar i1;refine⟨a,dx,_,r4,c.nh _ _ h,r4,N1,ρ,y.1,y.2,c.nh,r.mono c.bn,n,λt H2 N2 O i2 _=>?_⟩;obtain⟨_,⟨u,D,h'⟩,k⟩:=As O.nh n1 (i1.mono O.bn);unfold gR at e2;split at e2
 .rename_i S er;cases e2
  refine⟨wo N2 a,a,t,y.1,bk,kn,on,_,r4,⟨aP.trans O.nh,Ju h' ((r.tb.mono c.bn).mono O.bn)⟩,k,Is.wo h' i2 n2,er,λE G T I J _=>?_⟩;obtain⟨L,g⟩:=Jv O.nh h' I;exact q E G _ ((c.trans O).trans g) (J.mono L) λz=>nomatch z
 .cases e2
end
noncomputable def env (l:List (Option D)):DL.Env:=l.map (Option.map λd=>(d,false))
def o7{i:Nat}(h:(env l)[i]? = some (some (d,b))):b=false/\l[i]? = some (some d):=by
 unfold env at h;rw[vB]at h;cases e:l[i]? with
 |none=>rw[e]at h;cases h
 |some x=>
  rw[e]at h;cases x with
  |none=>cases h
  |some y=>cases h;exact⟨r4,r4⟩
def cD{i:Nat}(h:l[i]? = some (some d)):(env l)[i]? = some (some (d,false)):=by
 unfold env;rw[vB,h];rfl
def d6 l:DL.unown (env l)=env l:=by
 unfold DL.unown env;rw[map_map];refine List.map_congr_left λx z=>?_;cases x<;>rfl
def vm l i d:(env l).set i (some (d,false))=env (l.set i (some d)):=by
 unfold env;rw[map_set];rfl
def Fu ρ i(d)b:DL.unown (ρ.set i (some (d,b)))=(DL.unown ρ).set i (some (d,false)):=by
 unfold DL.unown;rw[map_set];rfl
def Au l i(d)b:DL.unown (setE (env l) i d b)=env (l.set i (some d)):=by
 unfold setE;repeat' split
 all_goals rw[Fu,d6,<-vm]
 rw[d6]
def Pl (K:Frag)(B0 H0 H:Hp)(σ:L2.St)(l:List (Option D)):Prop:=∃N,cy K B0 H0 N H σ (env l)
section
variable {K:Frag}{B0 H0 N H:Hp}{σ:L2.St}{l l':List (Option D)}{E:Ends}{i:Nat}{a C:Addr}{bk:D}{kn on:Int}
def yx(s:Pl K B0 H0 H σ l)(e:g (env l)=some (.nx ρ'))(u:DL.unown ρ'=env l')(k:∀M H',Pl K B0 H0 H' M l'->E.nx M H'):jw K g E σ H:=
 ⟨B0,H0,env l,_,s,e,λM H' ⟨N',s'⟩=>k M H' ⟨N',u ▸ s'.unown⟩⟩
def ju {f:FE}{x:D×Bool}(s:Pl K B0 H0 H σ l)(e:f (env l)=some x)(k:∀M H',Pl K B0 H0 H' M (l.set i (some x.1))->E.nx M H'):jw K (cI i f) E σ H:=
 yx s (by unfold cI;rw[e];rfl) (Au l i _ _) k
def vn(s:Pl K B0 H0 H σ l)(e:c (env l)=some false)(k:∀M H',Pl K B0 H0 H' M l->E.nx M H'):jw K (f6 c g b9) E σ H:=
 yx s  (by unfold f6;rw[e];rfl) (d6 l) k
def Ra:¬own σ (env l) b:=λ⟨_,_,h,_⟩=>by
 obtain⟨z,y⟩:=o7 h;cases z
def put (bh:au B0 H0)(tb:Tb K B0)(len:l.length=σ.length)(x:Ext B0 N H0 H){M N' g H':Hp}(R:∀j d,j≠i->l[j]? = some (some d)->∃v,σ[j]? = some (some v)/\Is K M v d)
  (h:∀b o,b≠a->N b=some o->M b=some o) (m:au M N) (y:vy a M N' g H') (h1:∀b o,b≠a->H b=some o->g b=some o) (a0:H0 a=none) (k:yu K C N' H' a bk kn on) (hi:i<σ.length):
  Pl K B0 H0 H' (σ.set i (some (.ref a))) (l.set i (some (fQ C a bk kn on))):=by
 obtain⟨na,dx,U,ha,p⟩:=k;have s:au N' (upd N' a (.ins C dx (DH U kn on))):=λb u e=>by rw[af λz=>by rw[z,na]at e;cases e];exact e
 have O:∀ {b o},H0 b=some o->b≠a:=λe z=>by rw[z,a0]at e;cases e
 refine⟨upd N' a (.ins C dx (DH U kn on)),bh,tb,⟨λb u e=>y.hh _ _ (O e) (h1 _ _ (O e) (x.hh _ _ e)),λb u e=>s _ _ (y.bn _ _ (h _ _ (O (bh _ _ e)) (x.bn _ _ e))),λb u e=>?_,λb u e=>?_⟩,by unfold env;simp[len],λj d e=>?_,λj d e=>?_,λj k b d e f=>?_⟩
 .by_cases z:b=a
  .subst z;rw[ae]at e;cases e;exact ha
  .rw[af z]at e;exact y.nh _ _ e
 .by_cases z:b=a
  .subst z;exact .inr a0
  .rw[af z]at e;rcases y.new _ _ e with q|q
   .exact x.new _ _ (m _ _ q)
   .refine .inr ?_;cases w:H0 b with
    |none=>rfl
    |some o=>rw[h1 _ _ z (x.hh _ _ w)]at q;cases q
 .obtain⟨_,e⟩:=o7 e;have c:∀ {v:V},Is K (upd N' a (.ins C dx (DH U kn on))) v d->Is K (cE (upd N' a (.ins C dx (DH U kn on))) (own (σ.set i (some (.ref a))) (env (l.set i (some (fQ C a bk kn on)))))) v d:=λz=>z.mono λb o e=>by rw[bF Ra];exact e
  rcases bg e with⟨rfl,q⟩|⟨n,q⟩
  .cases q
   exact⟨_,by simp[hi],c (.ob ae r4 (.cons (p.mono s) (.cons (.int _) (.cons (.int _) .nil))))⟩
  .obtain⟨v,h2,h3⟩:=R j d (Ne.symm n) q;exact⟨v,by rw[vC n];exact h2,c ((h3.mono y.bn).mono s)⟩
 .cases (o7 e).1
 .cases (o7 f).1
def Pl.ent (s:cy K B0 H0 N H σ (env l)){j:Nat}(e:l[j]? = some (some d)):∃v,σ[j]? = some (some v)/\Is K N v d:=s.rep.at' j d _ (cD e)
def Pl.len (s:cy K B0 H0 N H σ (env l)):l.length=σ.length:=by have:=s.len;unfold env at this;simpa using this
def Av {f:FE}{td:D}{b U:Bool}{p:XK}(s:Pl K B0 H0 H σ l)(hi:i<l.length)(e:f (env l)=some (td,b))(er:d4 [td]=some (bk,U))
  (k:∀a M H',H0 a=none->(∀(j:Nat) b c ns ds,l[j]? = some (some (D.ob b c ns ds))->b≠a)->Pl K B0 H0 H' M (l.set i (some (fQ C a bk 9999 0)))->E.nx M H'):
  wb (ND C (Js K C) [] p (ky (tD K f) t9)) (fu i) E σ H:=by
 obtain⟨N,s⟩:=s;refine⟨N,_,td,b,s.ext.nh,s.rep,e,λv g N1 O i1 x a dx h1 h2 n=>?_⟩;have s1:=s.grow O;have m:∀b o,g b=some o->upd (upd g dx (.own a)) a (.ins C dx []) b=some o:=λb o e=>by
  rw[af (λz=>by rw[z,h1]at e;cases e),af (λz=>by rw[z,h2]at e;cases e)];exact e
 have a0:=s1.ext.hh.free h1;refine⟨N1,a,v,td,dx,bk,U,r4,⟨O.nh.trans m,s.tb.mono s1.ext.bn⟩,O.nh.free h1,ae,i1,er,λH' N' y r=>⟨r4,k a _ H' a0 (λj b c ns ds q z=>?_) (put s.bh s.tb (Pl.len s) s1.ext (λj d x q=>Pl.ent s1 q) (λx x x q=>q) (au.refl _) y (λb o x q=>m b o q) a0 r (Pl.len s ▸ hi))⟩⟩;obtain⟨v,x,i⟩:=Pl.ent s1 q;cases i with
 |ob h _ _=>rw[z,O.nh.free h1]at h;cases h
def o8{f:FE}{ln O:D}{b:Bool}{U on':Int}{r:XK}{Q:VK}(s:Pl K B0 H0 H σ l)(hi:l[i]? = some (some (fQ C a bk kn on)))(a0:H0 a=none)(nb:aU bk=true)
  (no:∀j d,j≠i->l[j]? = some (some d)->aU d=true\/∃b c ns ds,d=.ob b c ns ds/\b≠a/\c7 ds=true) (e:f (env l)=some (ln,b)) (nl:aU ln=true) (er:fm bk kn on ln=some (.ok O U on'))
  (k:∀H',Pl K B0 H0 H' σ (l.set i (some (fQ C a O U on')))->Q (.str "ok") H'):
  AB C "say" (yv K C Cw Cn Ct Cr) [] r (kq i) (ky (tD K f) t9) σ H Q:=by
 obtain⟨N,s⟩:=s;obtain⟨v,m,iv⟩:=Pl.ent s hi;obtain⟨rfl,dx,B,h,Z⟩:=Ar iv;refine⟨_,m,a,dx,_,r4,s.ext.nh _ _ h,r4,N,_,ln,b,s.ext.nh,s.rep,e,λt H2 N2 g i2 Z=>?_⟩;have s2:=s.grow g;obtain⟨Z,⟨u,w,h'⟩,x⟩:=As g.nh nb (iv.mono g.bn);refine⟨wo N2 a,a,t,ln,bk,kn,on,_,r4,⟨aP.trans g.nh,Ju h' (s.tb.mono s2.ext.bn)⟩,x,Is.wo h' i2 nl,er,λH' N' y z=>?_⟩;have hl:=(vV m).1;have q:=put (i:=i) s.bh s.tb (Pl.len s) s2.ext (M:=wo N2 a) (λj d n q=>?_) (λb o n q=>DI q n) aP y (λZ Z Z q=>q) a0 z hl
 .rw[show σ.set i (some (.ref a))=σ from ?_]at q
  .exact k H' q
  .refine ext_getElem? λj=>?_;by_cases z:i=j
   .subst z;rw[getElem?_set_self hl,m]
   .rw[vC z]
 .obtain⟨v,h1,h2⟩:=Pl.ent s2 q;refine⟨v,h1,?_⟩;rcases no j d n q with nd|⟨b,c,ns,ds,rfl,nb,nd⟩
  .exact Is.wo h' h2 nd
  .cases h2 with
   |ob h3 p A=>exact .ob (DI h3 nb) p (IsL.wo h' A nd)
def Fv{f:FE}{c:FT}{cb:Bool}{on':Int}{M:XK}(s:Pl K B0 H0 H σ l)(hi:l[i]? = some (some (fQ C a bk kn on)))(a0:H0 a=none)(nb:aU bk=true)
  (no:∀j d,j≠i->l[j]? = some (some d)->aU d=true\/∃b c ns ds,d=.ob b c ns ds/\b≠a/\c7 ds=true) (e:c (env l)=some cb)
  (h:(cb=true/\∃ln b,f (env l)=some (ln,b)/\aU ln=true/\fm bk kn on ln=some (.ok bk kn on'))\/(cb=false/\on'=on))
  (k:∀H',Pl K B0 H0 H' σ (l.set i (some (fQ C a bk kn on')))->E.nx σ H'):
  DZ (wk K c) (Nz (AB C "say" (yv K C Cw Cn Ct Cr) [] M (kq i) (ky (tD K f) t9))) vO E σ H:=by
 obtain⟨N,s⟩:=s;refine⟨N,env l,cb,s.ext.nh,s.rep,e,λH' O=>?_⟩;have s':Pl K B0 H0 H' σ l:=⟨N,s.grow (.grow s.ext.nh O)⟩;rcases h with⟨rfl,ln,b,U,nl,er⟩|⟨rfl,rfl⟩
 .exact o8 s' hi a0 nb no U nl er k
 .refine k H' ?_;rw[show l.set i _=l from ?_]
  .exact s'
  .refine ext_getElem? λj=>?_;by_cases z:i=j
   .subst z;rw[getElem?_set_self (vV hi).1,hi]
   .rw[vC z]
def MS{f:FE}{ln M:D}{b:Bool}{O on':Int}{g:XK}{u:TS}(s:Pl K B0 H0 H σ l)(hi:l[i]? = some (some (fQ C a bk kn on)))(a0:H0 a=none)(nb:aU bk=true)
  (no:∀j d,j≠i->l[j]? = some (some d)->aU d=true\/∃b c ns ds,d=.ob b c ns ds/\b≠a/\c7 ds=true) (e:f (env l)=some (ln,b)) (nl:aU ln=true) (er:fm bk kn on ln=some (.ok M O on'))
  (k:∀H',Pl K B0 H0 H' σ (l.set i (some (fQ C a M O on')))->E.nx σ H'):
  DZ (Gb (RN (rD K i6) (AB C "say" (yv K C Cw Cn Ct Cr) [] g (kq i) (ky (tD K f) t9)) (tD K (fC (.str "ok"))))) u vO E σ H:=by
 refine o8 s hi a0 nb no e nl er λp ⟨N,s1⟩=>?_;refine⟨N,_,_,false,s1.ext.nh,s1.rep,r4,λv H2 N2 U i2 z=>?_⟩;cases i2
 refine⟨N2,.str "ok",.str "ok",.bl false,false,U.nh,.str _,.str _,X9,λv h m n o z=>?_⟩;cases o
 refine⟨false,r4,?_⟩;show(if false=true then _ else _);exact k h ⟨m,s1.grow (U.trans n)⟩
end
abbrev sc (ns:LI):D:=.lst (ns.map .int)
def Nb (x:Option D):Prop:=∀d,x=some d->aU d=true
def nb0:Nb none:=λz h=>nomatch h
abbrev yy (o:OB)(d:D):Prop:=∃b,o=some (d,b)
noncomputable def Rb (C:Addr):FS:=
  (f6 (gb (c8 (f2 qI (f2 eY (f2 gM (f2 eY (ai 1) (ai 4)) (fC (.str " "))) (fC (.int 1))) (fA cG (ak (fC (.str "leave")) (ak (fC (.str "paper")) (ak (fC (.str "copy")) aI)))))) (c8 (f2 NL (ai 4) (fC (.int 12))))) (f6 (c8 (f2 i6 (f2 (gS C) (ai 3) (f2 dG (fC (.str "faults ")) (fA Fg (ak (ai 4) aI)))) (fA cG (ak (fC (.str "number")) (ak (fC .non) aI))))) (cq (fC (.bl false))) b9) b9)
noncomputable def Rc (C:Addr):FS:=
  (bZ (wL [7,8] (fA jo (ak (f2 jL (fA bM (ak (ai 0) (ak (f2 dG (fC (.int 3)) (ai 4)) aI))) (f2 To (fC (.int 10)) (fC (.int 12)))) (ak (ai 1) aI))))
  (bZ (f6 (c8 (f2 i6 (f2 (gS C) (ai 3) (ai 7)) (ai 8))) (cq (fC (.bl false))) b9)
  (f6 (c8 (f2 i6 (da (lV (ai 5)) 1 [3] (nA 0) dN (f2 (jW C) (ai 1) (ai 0))) (ai 6))) (cq (fC (.bl false))) b9)))
noncomputable def Wj (C:Addr):FS:=
  (f6 (c8 (f2 i6 (f2 (gS C) (ai 3) (ai 12)) (fA cG (ak (fC (.str "word")) (ak (fC .non) aI))))) (cq (fC (.bl false))) b9)
noncomputable def lw0 (C:Addr):FS:=(cI 1 (fA dz (ak (ai 0) aI)))
noncomputable def lw1 (C:Addr):FS:=(cI 2 (f2 kP (fC (.str ("\n" : PySem.Str))) (ai 1)))
noncomputable def Zh (C:Addr):FS:=(f7 (oj (fC (.int 2)) (fA cU (ak (ai 1) aI))) (nA 4) (Rb C))
noncomputable def lw7 (C:Addr):FS:=(cI 5 (fA jz (ak (fC (.str "text")) (ak (fC (.str "standing")) (ak (fC (.str "holder king")) (ak (fC (.str ("stands 1" : PySem.Str))) aI))))))
noncomputable def lw8 (C:Addr):FS:=(cI 6 (da (lV (ai 5)) 1 [3] (nA 0) dN (f2 (jW C) (ai 1) (ai 0))))
noncomputable def lw9 (C:Addr):FS:=(f6 (c8 (f2 i6 (f2 eY (ai 6) (fC (.int 0))) (ai 2))) (cq (fC (.bl false))) b9)
noncomputable def Re (C:Addr):FS:=(f7 (iA (fC (.int 14))) (nA 4) (Rc C))
noncomputable def Zi (C:Addr):FS:=(cI 9 (fA jz (ak (fC (.str ("0 root king abc 2 open" : PySem.Str))) (ak (fC (.str ("0 named 0 king ann" : PySem.Str))) aI))))
noncomputable def DK:FE:=(f2 dG (ai 9) (da (lV (fC (.str "abcdefghijklmnopqrs"))) 1 [] (nA 0) dN (f2 dG (fC (.str ("9 lost 9 z" : PySem.Str))) (ai 0))))
def Zj (C:Addr):FS:=cI 9 DK
noncomputable def Jx (C:Addr):FT:=(io (c8 (f2 i6 (f2 (gS C) (ai 10) (fC (.str ("add 9 lost 9 zz" : PySem.Str)))) (fA cG (ak (fC (.str "row")) (ak (fC (.int 21)) aI))))) (c8 (f2 i6 (f2 (jW C) (ai 10) (fC (.str "text"))) (f2 kP (fC (.str ("\n" : PySem.Str))) (ai 9)))))
noncomputable def Zk (C:Addr):FS:=(f6 (Jx C) (cq (fC (.bl false))) b9)
noncomputable def Jy (C:Addr):FT:=(io (c8 (f2 i6 (f2 (jW C) (ai 11) (fC (.str "text"))) (fC (.str "")))) (c8 (f2 i6 (f2 (jW C) (ai 11) (fC (.str "standing"))) (fC (.str "none")))))
noncomputable def Zl (C:Addr):FS:=(f6 (Jy C) (cq (fC (.bl false))) b9)
noncomputable def Jz (C:Addr):FT:=(io (c8 (f2 i6 (f2 (gS C) (ai 11) (fC (.str ("stands 0" : PySem.Str)))) (fA cG (ak (fC (.str "number")) (ak (fC .non) aI))))) (c8 (f2 i6 (f2 (jW C) (ai 11) (fC (.str "holder king"))) (fC (.str "none")))))
noncomputable def Zm (C:Addr):FS:=(f6 (Jz C) (cq (fC (.bl false))) b9)
noncomputable def Rf (C:Addr):FS:=(yX (lV (fA jz (ak (fC .non) (ak (fC (.int 7)) (ak (fA jz (ak (fC (.str "text")) aI)) (ak (fC (.bl true)) aI)))))) (nA 12) (Wj C))
noncomputable def Rg (C:Addr):FS:=(cq (f2 jM (da (lV (ai 5)) 1 [3] (nA 0) dN (f2 (jW C) (ai 1) (ai 0))) (ai 6)))
noncomputable def MT:FT:=(c8 (f2 jM (f2 jL (fA bM (ak (ai 0) (ak (fC (.int 2)) aI))) (fC (.int 2))) (fC (.int 1))))
noncomputable def Rh:FE:=(f2 dG (fC (.str "on ")) (fA Fg (ak (f2 jL (f2 E4 (fA bM (ak (ai 0) (ak (fC (.int 2)) aI))) (fC (.int 2))) (fC (.int 9))) aI)))
noncomputable def Zn:FE:=(f2 kP (fC (.str ("\n" : PySem.Str))) (ai 9))
noncomputable abbrev d7:D:=.lst [.str "text",.str "standing",.str "holder king",.str "stands 1"]
noncomputable abbrev qD:D:=.lst [.str "0 root king abc 2 open",.str "0 named 0 king ann"]
structure LwOk (ns:List Int)(vz:List D)(tx cr t1 t2 t3:PySem.Str)(bk Ny Xk FN:D)(on:Int):Prop where
 L:yy (dz [sc ns]) (.lst vz)
 J:yy (kP (.str "\n") (.lst vz)) (.str tx)
 R:yy (d4 [.str tx]) bk
 nb:aU bk=true
 nl:c7 vz=true
 o3:∃cb,(∀l,MT (env (some (sc ns)::l))=some cb)/\((cb=true/\∃w b,(∀l,Rh (env (some (sc ns)::l))=some (.str w,b))/\fm bk 9999 0 (.str w)=some (.ok bk 9999 on))\/(cb=false/\on=0))
 k0:fm bk 9999 on (.str "known 0")=some (.ok bk 0 on)
 n5:∀C a,∃k:Option D,Nb k/\Zh C (env [some (sc ns),some (.lst vz),some (.str tx),some (fQ C a bk 0 on),none,none,none,none,none,none,none,none,none])=some (.nx (env [some (sc ns),some (.lst vz),some (.str tx),some (fQ C a bk 0 on),k,none,none,none,none,none,none,none,none]))
 k9:fm bk 0 on (.str "known 9999")=some (.ok bk 9999 on)
 a0:gR bk 9999 on (.str "text")=some (.str tx)
 a1:gR bk 9999 on (.str "standing")=some (.str t1)
 a2:gR bk 9999 on (.str "holder king")=some (.str t2)
 a3:gR bk 9999 on (.str "stands 1")=some (.str t3)
 n10:∀C a k,∃k' r w:Option D,Nb k'/\Nb r/\Nb w/\Re C (env [some (sc ns),some (.lst vz),some (.str tx),some (fQ C a bk 9999 on),k,some d7,some (.lst [.str tx,.str t1,.str t2,.str t3]),none,none,none,none,none,none])=some (.nx (env [some (sc ns),some (.lst vz),some (.str tx),some (fQ C a bk 9999 on),k',some d7,some (.lst [.str tx,.str t1,.str t2,.str t3]),r,w,none,none,none,none]))
 c12:∀l:List (Option D),l[9]? = some (some qD)->yy (DK (env l)) FN
 cJ:yy (kP (.str "\n") FN) (.str cr)
 cR:yy (d4 [.str cr]) Ny
 nb2:aU Ny=true
 ncr:aU FN=true
 c14:bY Ny 9999 0 (.str "add 9 lost 9 zz")=some (.tup [.str "row",.int 21])
 c14t:gR Ny 9999 0 (.str "text")=some (.str cr)
 c15:fm Ny 9999 0 (.str "add 9 found 9 za")=some (.ok Xk 9999 0)
 e16:yy (d4 [.str ""]) (.tup [])
 e17:gR (.tup []) 9999 0 (.str "text")=some (.str "")
 e17s:gR (.tup []) 9999 0 (.str "standing")=some (.str "none")
 e18:bY (.tup []) 9999 0 (.str "stands 0")=some (.tup [.str "number",.non])
 e18h:gR (.tup []) 9999 0 (.str "holder king")=some (.str "none")
 t19:∀d∈[D.non,.int 7,.lst [.str "text"],.bl true],bY bk 9999 on d=some (.tup [.str "word",.non])
open Classical in
noncomputable def F_law:LD->OB:=λds=>if ∃ns vz tx cr t1 t2 t3 bk Ny Xk FN on,ds=[sc ns]/\LwOk ns vz tx cr t1 t2 t3 bk Ny Xk FN on then some (.bl true,false)else none
def fA1(h:ρ[i]? = some (some (d,b))):fA f (ak (ai i) aI) ρ=f [d]:=by simp[h]
def Wk(h:ρ[i]? = some (some (d,b))):f2 f (fC c) (ai i) ρ=f c d:=by simp[h]
def Zo(hx:aU x=true)(hy:aU y=true)(hz:aU z=true)(hk:Nb k):∀j d,j≠3->[some x,some y,some z,some u,k,none,none,none,none,none,none,none,none][j]? = some (some d)->aU d=true\/∃b c ns ds,d=.ob b c ns ds/\b≠a/\c7 ds=true:=λj d n e=>by
 rcases j with w|w|w|w|w|w|w|w|w|w|w|w|w|j<;>cases e<;>first|exact .inl hx|exact .inl hy|exact .inl hz|exact .inl (hk _ r4)|exact absurd r4 n
def Wl {M:D->D->OB}{ρ:DL.Env}{dk d0 O U a:D}{b c:Bool}(h3:ρ[3]? = some (some (dk,b)))(h5:ρ[5]? = some (some (d7,c)))(d:M dk (.str "text")=some (d0,false))(e:M dk (.str "standing")=some (O,false))(e2:M dk (.str "holder king")=some (U,false))(f:M dk (.str "stands 1")=some (a,false)):
  da (lV (ai 5)) 1 [3] (nA 0) dN (f2 M (ai 1) (ai 0)) ρ=some (.lst [d0,O,U,a],true):=by
 have hz:(4:Nat)<=sizeLine:=aQ Z9;simp[h5,g9,h3,jH,d,e,e2,f,hz]
def Zp:fA jz (ak (fC a) (ak (fC b) (ak (fC c) (ak (fC d) aI)))) ρ=some (.lst [a,b,c,d],true):=by simp[aQ _]
def mk2:fA jz (ak (fC a) (ak (fC b) aI)) ρ=some (.lst [a,b],true):=by simp[aQ _]
def Ri:∀d∈[D.non,.int 7,.lst [.str "text"],.bl true],aU d=true:=by
 intro d hd;simp at hd;rcases hd with rfl|rfl|rfl|rfl<;>rfl
def MU {ρ:DL.Env}{x:PySem.Str}{r:LD}{b M:Bool}(O:ρ[6]? = some (some (.lst (.str x::r),b)))(h2:ρ[2]? = some (some (.str x,M))):c8 (f2 i6 (f2 eY (ai 6) (fC (.int 0))) (ai 2)) ρ=some false:=by
 have:qL (D.str x::r) 0=some (.str x):=by rw[<-IE];rfl
 simp[O,h2,this]
def Wm {C:Addr}{ρ:DL.Env}{dk FN:D}{cr:PySem.Str}{b U M:Bool}(O:ρ[10]? = some (some (dk,b)))(a:ρ[9]? = some (some (FN,U)))(c:gS C dk (.str "add 9 lost 9 zz")=some (.tup [.str "row",.int 21],false))(e2:jW C dk (.str "text")=some (.str cr,false))(d:kP (.str "\n") FN=some (.str cr,M)):Jx C ρ=some false:=by
 have hz:(2:Nat)<=sizeLine:=aQ Z9;unfold Jx;simp only[f2,fA,ak,aI,ai,fC,c8,io,O,a,vJ,c,e2,d,cG,vE,length_nil,hz,if_pos];simp
def Wn {C:Addr}{ρ:DL.Env}{dk:D}{b:Bool}(M:ρ[11]? = some (some (dk,b)))(O:jW C dk (.str "text")=some (.str "",false))(e2:jW C dk (.str "standing")=some (.str "none",false)):Jy C ρ=some false:=by
 unfold Jy;simp only[f2,ai,fC,c8,io,M,vJ,O,e2];decide +kernel
def Wo {C:Addr}{ρ:DL.Env}{dk:D}{b:Bool}(M:ρ[11]? = some (some (dk,b)))(O:gS C dk (.str "stands 0")=some (.tup [.str "number",.non],false))(e2:jW C dk (.str "holder king")=some (.str "none",false)):Jz C ρ=some false:=by
 have hz:(2:Nat)<=sizeLine:=aQ Z9;unfold Jz;simp only[f2,fA,ak,aI,ai,fC,c8,io,M,vJ,O,e2,cG,vE,length_nil,hz,if_pos];decide +kernel
def Rk {C:Addr}{a b c e f g i j k M O:Option D}{U:D}(h:∀d∈[D.non,.int 7,.lst [.str "text"],.bl true],gS C U d=some (.tup [.str "word",.non],false)):Rf C (env [a,b,c,some U,e,f,g,i,j,k,M,O,none])=some (.nx (env [a,b,c,some U,e,f,g,i,j,k,M,O,some (.bl true)])):=by
 have hz:(4:Nat)<=sizeLine:=aQ Z9;have l:(1:Nat)<=sizeLine:=aQ Z9;have m:(2:Nat)<=sizeLine:=aQ Z9;have n:=h .non X9;have e2:=h (.int 7) X9;have o:=h (.lst [.str "text"]) X9;have p:=h (.bl true) X9;unfold Rf Wj;simp[env,hz,l,m,n,e2,o,p,show ge .non .non=true from r4]
def Wp {C:Addr}{ρ:DL.Env}{M t1 t2 t3:PySem.Str}{b:Bool}(e:da (lV (ai 5)) 1 [3] (nA 0) dN (f2 (jW C) (ai 1) (ai 0)) ρ=some (.lst [.str M,.str t1,.str t2,.str t3],true))(O:ρ[6]? = some (some (.lst [.str M,.str t1,.str t2,.str t3],b))):Rg C ρ=some (.rt (.bl true) false):=by
 unfold Rg;simp only[cq,f2,e,ai,O,vJ];simp
noncomputable abbrev O2:List PySem.Str:=["_law_script","_law_lines_here","_law_text","_law_desk","_law_k","_law_asked","_law_due_here","_law_row","_law_wanted","_law_crowd","_law_full","_law_empty","_law_thing"]
section
variable {P:Program}{w:World}{K:Frag}{mg:SV}(T:Tx w K mg)
include T
theorem MV {base:Heap}{C S:Addr}{cl:Nat->Addr}(k:Dk K C)(er:Er K cl S)(dk:nD K "_law_looks" (jm 161))(nv:mg "ValueError" = none)
  {f:Addr}{bD:Value}{A:Around}{outer:List PySem.Env}{s:Shared}{H:Hp}{E:XK}{vs:LV}{Q:VK}(nd:O2.Nodup) (U:bB 17 (A.deeper (envOfC "law" (aj (jm 163)) s.z f bD))) (h:PK K F_law vs H Q E):
  ∃t,kj (bK oR P w K mg base O2 "law" (aj (jm 163)) f bD A outer s H E) (aK (jm 163)) t/\t { nx:=λ_ H'=>Q .non H',rt:=Q } (L2.dD O2 vs) H:=by
 have hu:=gg U;have lk:FnS P w K mg base 17 "_law_looks" (vk K C):=Jt T k er dk nv;have sy:SayOk P w K mg base C (cl 0) (cl 1) (cl 2) (cl 3):=⟨k.cl,Ao T k er.w er.n er.t er.r⟩;obtain⟨fI,fdI,psI,W,Y,Z⟩:=MR T (P:=P) (base:=base) k;obtain⟨sf,sfd,sps,y,sF,z⟩:=Ao T (P:=P) (base:=base) k er.w er.n er.t er.r;have mD:mg "Desk" = some (.ref C):=let ⟨_,X,G⟩:=T.hX;mg_of X G k.nm;refine⟨_,aq ((show JS _ _ (lw0 C) from(lT (i:=1) nd (eN (yr T 104 r4:Fn P w K mg base 2 "_law_lines" dz) U (ag (ah 0) aB))))) (
   aq ((show JS _ _ (lw1 C) from(lT (i:=2) nd (iC slot_str_join type_str_join uu kQ aC (ah 1))))) (
   aq (cm (i:=3) nd I9 O8 (tG W Y (U.mono Z9) I9 mD Z .nil nu (av (show JE _ _ (ai 2)from ah 2) aN))) (
   aq (fX (show JT _ _ MT from(bw (w6 hu) (gd AG (eN (yr T 105 r4:Fn P w K mg base 1 "_law_cell" bM) U (ag (ah 0) (Im aB))) aL) aL)) (bf (ft (jd (aF (i:=3) I9 (by first|exact .inl r4|exact .inr (.inl r4)|exact .inr (.inr r4))) sy.cl y sF (U.mono Z9) z .nil nu (av (show JE _ _ Rh from(gd fN aC (dU Ip (nb T 15 r4:mg "str" = none) wB (ag (gd AG (gd GG (eN (yr T 105 r4:Fn P w K mg base 1 "_law_cell" bM) U (ag (ah 0) (Im aB))) aL) aL) aB)))) aN)))) c9) (
   aq (ft (jd (aF (i:=3) I9 (by first|exact .inl r4|exact .inr (.inl r4)|exact .inr (.inr r4))) sy.cl y sF (U.mono Z9) z .nil nu (av (show JE _ _ (fC (.str ("known 0" : PySem.Str)))from aC) aN))) (
   aq ((show JS _ _ (Zh C) from(HY (hp:=PassesOwn.leaving) (EQ (nb T 11 r4:mg "range" = none) aL (de mB (nb T 7 r4:mg "len" = none) kK (ag (ah 1) aB))) (Qv 4 nd) ir (du (j0 (nB (ug (bw GL (cj (iC slot_str_split type_str_split uI mm (cj (ah 1) (ah 4)) aC) aL) (fK (ag aC (ag aC (ag aC aB))))) (nR (bw NM (ah 4) aL)))) (du (j0 (bw (jx hu) (iZ lk (U.mono Z9) (ah 3) (gd fN aC (dU Ip (nb T 15 r4:mg "str" = none) wB (ag (ah 4) aB)))) (fK (ag aC (ag jJ aB)))) (du (eJ gc)) fL)) fL))))) (
   aq (ft (jd (aF (i:=3) I9 (by first|exact .inl r4|exact .inr (.inl r4)|exact .inr (.inr r4))) sy.cl y sF (U.mono Z9) z .nil nu (av (show JE _ _ (fC (.str ("known 9999" : PySem.Str)))from aC) aN))) (
   aq ((show JS _ _ (lw7 C) from(lT (i:=5) nd (jK (ag aC (ag aC (ag aC (ag aC aB)))))))) (
   aq ((show JS _ _ (lw8 C) from(Ob ["_law_row","_law_desk"] nd (lW (ah 5)) jI (jX sy (U.mono Z9) (ah 1) (ah 0))))) (
   aq ((show JS _ _ (lw9 C) from(j0 (bw (jx hu) (cj (ah 6) aL) (ah 2)) (du (eJ gc)) fL))) (
   aq ((show JS _ _ (Re C) from(HY (hp:=PassesOwn.leaving) (kM (nb T 11 r4:mg "range" = none) aL) (Qv 4 nd) ir (uh (L8 (is:=[7,8]) (eN (yr T 101 r4:Fn P w K mg base 2 "_law_due" jo) U (ag (gd AG (eN (yr T 105 r4:Fn P w K mg base 1 "_law_cell" bM) U (ag (ah 0) (ag (gd fN aL (ah 4)) aB))) (gd Tt aL aL)) (ag (ah 1) aB))) (Qc r4 (cK (Qv 7 nd) (cK (Qv 8 nd) kx))))
   (uh (j0 (bw (jx hu) (iZ lk (U.mono Z9) (ah 3) (ah 7)) (ah 8)) (du (eJ gc)) fL)
   (du (j0 (bw (jx hu) (Bp ["_law_one","_law_desk"] (lW (ah 5)) jI (jX sy (U.mono Z9) (ah 1) (ah 0))) (ah 6)) (du (eJ gc)) fL))))))) (
   aq ((show JS _ _ (Zi C) from(lT (i:=9) nd (jK (ag aC (ag aC aB)))))) (
   aq ((show JS _ _ (Zj C) from(lT (i:=9) nd (gd fN (ah 9) (Bp ["_law_letter"] (lW aC) jI (gd fN aC (ah 0))))))) (
   aq (cm (i:=10) nd I9 O8 (tG W Y (U.mono Z9) I9 mD Z .nil nu (av (show JE _ _ Zn from(iC slot_str_join type_str_join uu kQ aC (ah 9))) aN))) (
   aq ((show JS _ _ (Zk C) from(j0 (nB (kH (bw (jx hu) (iZ lk (U.mono Z9) (ah 10) aC) (fK (ag aC (Im aB)))) (gA (bw (jx hu) (jX sy (U.mono Z9) (ah 10) aC) (iC slot_str_join type_str_join uu kQ aC (ah 9)))))) (du (eJ gc)) fL))) (
   aq (fX (t8 (jx hu) (jd (aF (i:=10) I9 (by first|exact .inl r4|exact .inr (.inl r4)|exact .inr (.inr r4))) sy.cl y sF (U.mono Z9) z .nil nu (av (show JE _ _ (fC (.str ("add 9 found 9 za" : PySem.Str)))from aC) aN)) (show JE _ _ (fC (.str "ok"))from aC) (by rfl)) (bf (eJ gc)) c9) (
   aq (cm (i:=11) nd I9 O8 (tG W Y (U.mono Z9) I9 mD Z .nil nu (av (show JE _ _ (fC (.str ""))from aC) aN))) (
   aq ((show JS _ _ (Zl C) from(j0 (nB (kH (bw (jx hu) (jX sy (U.mono Z9) (ah 11) aC) aC) (gA (bw (jx hu) (jX sy (U.mono Z9) (ah 11) aC) aC)))) (du (eJ gc)) fL))) (
   aq ((show JS _ _ (Zm C) from(j0 (nB (kH (bw (jx hu) (iZ lk (U.mono Z9) (ah 11) aC) (fK (ag aC (ag jJ aB)))) (gA (bw (jx hu) (jX sy (U.mono Z9) (ah 11) aC) aC)))) (du (eJ gc)) fL))) (
   aq ((show JS _ _ (Rf C) from(Oc (hp:=PassesOwn.leaving) (lW (jK (ag jJ (Im (ag (jK (ag aC aB)) (ag gc aB)))))) (Qv 12 nd) ir (du (j0 (bw (jx hu) (iZ lk (U.mono Z9) (ah 3) (ah 12)) (fK (ag aC (ag jJ aB)))) (du (eJ gc)) fL))))) (
   bf ((show JS _ _ (Rg C) from(eJ (GB (w6 hu) (Bp ["_law_one","_law_desk"] (lW (ah 5)) jI (jX sy (U.mono Z9) (ah 1) (ah 0))) (ah 6))))))))))))))))))))))))),?_⟩
 obtain⟨B,ds,d,b,sB,il,F,q⟩:=h;unfold F_law at F;split at F
 case isFalse=>cases F
 rename_i hx;cases F
 obtain⟨ns,vz,tx,cr,t1,t2,t3,bk,Ny,Xk,FN,on,rfl,O⟩:=hx;have S0:Pl K B H H (L2.dD O2 vs) [some (sc ns),none,none,none,none,none,none,none,none,none,none,none,none]:=⟨B,by
  have:=pf (N:=O2) sB.1 sB.2 il;cases il with|cons _ t=>cases t;exact this⟩
 clear il;generalize L2.dD O2 vs=σ0 at S0 |-;have I:aU (sc ns)=true:=by rw[sc];exact jt _ (λ_=>r4) ns
 have V:aU (.lst vz)=true:=O.nl
 have M:∀x,aU (.str x)=true:=λ_=>r4
 obtain⟨b0,e0⟩:=O.L;refine ju (x:=(.lst vz,b0)) S0 ((fA1 r4).trans e0) λσ1 H1 S1=>?_;obtain⟨b1,e1⟩:=O.J;refine ju (x:=(.str tx,b1)) S1 ((Wk r4).trans e1) λσ2 H2 S2=>?_;obtain⟨b2,e2⟩:=O.R;refine Av (td:=.str tx) (b:=false) S2 (by show 3<13;decide) r4 e2 λa c H3 a0 _ S3=>?_;change Pl K B H H3 c [some (sc ns),some (.lst vz),some (.str tx),some (fQ C a bk 9999 0),none,none,none,none,none,none,none,none,none]at S3;obtain⟨cb,ec,hc⟩:=O.o3;refine Fv (i:=3) S3 r4 a0 O.nb (Zo I V (M _) nb0) (ec _) (on':=on) (hc.imp_left λ⟨h1,w,b,h2,h3⟩=>⟨h1,.str w,b,h2 _,M _,h3⟩) λH4 S4=>?_;change Pl K B H H4 c [some (sc ns),some (.lst vz),some (.str tx),some (fQ C a bk 9999 on),none,none,none,none,none,none,none,none,none]at S4;refine o8 (i:=3) S4 r4 a0 O.nb (Zo I V (M _) nb0) r4 (M _) O.k0 λH5 S5=>?_;obtain⟨k5,n5,e5⟩:=O.n5 C a;refine yx S5 e5 (d6 _) λg H6 S6=>?_;change Pl K B H H6 g [some (sc ns),some (.lst vz),some (.str tx),some (fQ C a bk 0 on),k5,none,none,none,none,none,none,none,none]at S6;refine o8 (i:=3) S6 r4 a0 O.nb (Zo I V (M _) n5) r4 (M _) O.k9 λH7 S7=>?_;change Pl K B H H7 g [some (sc ns),some (.lst vz),some (.str tx),some (fQ C a bk 9999 on),k5,none,none,none,none,none,none,none,none]at S7;refine ju (x:=(d7,true)) S7 Zp λσ8 H8 S8=>?_;have Xl:∀l:List (Option D),l[3]? = some (some (fQ C a bk 9999 on))->l[5]? = some (some d7)->da (lV (ai 5)) 1 [3] (nA 0) dN (f2 (jW C) (ai 1) (ai 0)) (env l)=some (.lst [.str tx,.str t1,.str t2,.str t3],true):=λl h3 h5=>
  Wl (cD h3) (cD h5) (bp O.nb (M _) O.a0) (bp O.nb (M _) O.a1) (bp O.nb (M _) O.a2) (bp O.nb (M _) O.a3)
 refine ju (x:=(.lst [.str tx,.str t1,.str t2,.str t3],true)) S8 (Xl _ r4 r4) λσ9 H9 S9=>?_;refine vn S9 (MU r4 r4) λσ10 H10 S10=>?_;obtain⟨k',r',w',n1,n2,n3,ZX⟩:=O.n10 C a k5;refine yx S10 ZX (d6 _) λσ11 H11 S11=>?_;refine ju (x:=(qD,true)) S11 mk2 λσ12 H12 S12=>?_;obtain⟨b12,e12⟩:=O.c12 _ (r4:(List.set [some (sc ns),some (.lst vz),some (.str tx),some (fQ C a bk 9999 on),k',some d7,some (.lst [.str tx,.str t1,.str t2,.str t3]),r',w',none,none,none,none] 9 (some qD))[9]? = _);refine ju (x:=(FN,b12)) S12 e12 λσ13 H13 S13=>?_;obtain⟨b13,m⟩:=O.cJ;obtain⟨b14,e14⟩:=O.cR;refine Av (td:=.str cr) (b:=b13) S13 (by show 10<13;decide) ((Wk r4).trans m) e14 λa2 o H14 a20 fresh p=>?_;change Pl K B H H14 o [some (sc ns),some (.lst vz),some (.str tx),some (fQ C a bk 9999 on),k',some d7,some (.lst [.str tx,.str t1,.str t2,.str t3]),r',w',some FN,some (fQ C a2 Ny 9999 0),none,none]at p;have na:a≠a2:=fresh 3 a C Zg _ r4;refine vn p (Wm (cD r4) (cD r4) (bp O.nb2 (M _) O.c14) (bp O.nb2 (M _) O.c14t) m) λσ15 H15 S15=>?_;refine MS (i:=10) S15 r4 a20 O.nb2 ?_ r4 (M _) O.c15 λH16 S16=>?_
 .intro j d hj e;rcases j with _|_|_|_|_|_|_|_|_|_|_|_|_|j<;>cases e<;>first
   |exact .inl I|exact .inl V|exact .inl (M _)
   |exact .inr ⟨_,_,_,_,r4,na,by rw[c7,O.nb];rfl⟩
   |exact .inl (n1 _ r4)|exact .inl (n2 _ r4)|exact .inl (n3 _ r4)|exact .inl O.ncr|exact .inl r4|exact absurd r4 hj
 obtain⟨b16,e16⟩:=O.e16;refine Av (td:=.str "") (b:=false) S16 (by show 11<13;decide) r4 e16 λa3 u H17 _ _ v=>?_;change Pl K B H H17 u [some (sc ns),some (.lst vz),some (.str tx),some (fQ C a bk 9999 on),k',some d7,some (.lst [.str tx,.str t1,.str t2,.str t3]),r',w',some FN,some (fQ C a2 Xk 9999 0),some (fQ C a3 (.tup []) 9999 0),none]at v;refine vn v (Wn (cD r4) (bp r4 (M _) O.e17) (bp r4 (M _) O.e17s)) λσ18 H18 S18=>?_;refine vn S18 (Wo (cD r4) (bp r4 (M _) O.e18) (bp r4 (M _) O.e18h)) λσ19 H19 S19=>?_;refine yx S19 (Rk λd hd=>bp O.nb (Ri d hd) (O.t19 d hd)) (d6 _) λσ20 H20 S20=>?_;obtain⟨N20,s20⟩:=S20;exact⟨B,H,_,.rt (.bl true) false,⟨N20,s20⟩,Wp (Xl _ r4 r4) (cD r4),q⟩
end
def MW (o:OB)(d:D):Bool:=match o with
 |some (x,_)=>eO x d
 |none=>false
def Kk {o:OB}{d:D}(h:MW o d=true):yy o d:=by
 unfold MW at h;split at h
 .exact⟨_,by rw[DL.uG h]⟩
 .cases h
noncomputable def lnT:List PySem.Str:=(["0 root king abc 2 open","0 named 0 king ann","1 leave 1 ann bob ab 0 - 1","5 paper 2 bob a 0 30 - of the king","3 copy 3 dan 3","4 death 4 bob","9 call 5 ann 2","2 lost 2 bob","6 named 1 king eve","3 root abbot c 0 first","7 found 7 ann","8 root king a 0 last","8 death 8 ann","9 lost 9 za","9 lost 9 zb","9 lost 9 zc","9 lost 9 zd","9 lost 9 ze","9 lost 9 zf","9 lost 9 zg"]++["9 lost 9 zh","9 lost 9 zi","9 lost 9 zj","9 lost 9 zk","9 lost 9 zl","9 lost 9 zm","9 lost 9 zn","9 lost 9 zo","9 lost 9 zp","9 lost 9 zq","9 lost 9 zr","9 lost 9 zs","9 lost 9 zz","9 found 9 za"]:List String).map PySem.Str.ofString
noncomputable def rwT:LD:=[.tup [(.int 0),(.tup [(.str "root"),(.str "king"),(.int 7),(.int 2),(.str "open")])],.tup [(.int 0),(.tup [(.str "named"),(.int 0),(.str "king"),(.str "ann")])],.tup [(.int 1),(.tup [(.str "leave"),(.int 1),(.str "ann"),(.str "bob"),(.int 3),(.tup [(.int 0),(.non)]),(.int 1)])],.tup [(.int 5),(.tup [(.str "paper"),(.int 2),(.str "bob"),(.int 1),(.tup [(.int 0),(.int 30)]),(.non),(.tup [(.str "of"),(.str "the"),(.str "king")])])],.tup [(.int 3),(.tup [(.str "copy"),(.int 3),(.str "dan"),(.int 3)])],.tup [(.int 4),(.tup [(.str "death"),(.int 4),(.str "bob")])],.tup [(.int 9),(.tup [(.str "call"),(.int 5),(.str "ann"),(.int 2)])],.tup [(.int 2),(.tup [(.str "lost"),(.int 2),(.str "bob")])],.tup [(.int 6),(.tup [(.str "named"),(.int 1),(.str "king"),(.str "eve")])],.tup [(.int 3),(.tup [(.str "root"),(.str "abbot"),(.int 4),(.int 0),(.str "first")])],.tup [(.int 7),(.tup [(.str "found"),(.int 7),(.str "ann")])],.tup [(.int 8),(.tup [(.str "root"),(.str "king"),(.int 1),(.int 0),(.str "last")])],.tup [(.int 8),(.tup [(.str "death"),(.int 8),(.str "ann")])],.tup [(.int 9),(.tup [(.str "lost"),(.int 9),(.str "za")])],.tup [(.int 9),(.tup [(.str "lost"),(.int 9),(.str "zb")])],.tup [(.int 9),(.tup [(.str "lost"),(.int 9),(.str "zc")])],.tup [(.int 9),(.tup [(.str "lost"),(.int 9),(.str "zd")])],.tup [(.int 9),(.tup [(.str "lost"),(.int 9),(.str "ze")])],.tup [(.int 9),(.tup [(.str "lost"),(.int 9),(.str "zf")])],.tup [(.int 9),(.tup [(.str "lost"),(.int 9),(.str "zg")])]]++[.tup [(.int 9),(.tup [(.str "lost"),(.int 9),(.str "zh")])],.tup [(.int 9),(.tup [(.str "lost"),(.int 9),(.str "zi")])],.tup [(.int 9),(.tup [(.str "lost"),(.int 9),(.str "zj")])],.tup [(.int 9),(.tup [(.str "lost"),(.int 9),(.str "zk")])],.tup [(.int 9),(.tup [(.str "lost"),(.int 9),(.str "zl")])],.tup [(.int 9),(.tup [(.str "lost"),(.int 9),(.str "zm")])],.tup [(.int 9),(.tup [(.str "lost"),(.int 9),(.str "zn")])],.tup [(.int 9),(.tup [(.str "lost"),(.int 9),(.str "zo")])],.tup [(.int 9),(.tup [(.str "lost"),(.int 9),(.str "zp")])],.tup [(.int 9),(.tup [(.str "lost"),(.int 9),(.str "zq")])],.tup [(.int 9),(.tup [(.str "lost"),(.int 9),(.str "zr")])],.tup [(.int 9),(.tup [(.str "lost"),(.int 9),(.str "zs")])],.tup [(.int 9),(.tup [(.str "lost"),(.int 9),(.str "zz")])],.tup [(.int 9),(.tup [(.str "found"),(.int 9),(.str "za")])]]
def v6 (i:Nat):PySem.Str:=lnT.getD i ""
def qJ (i:Nat):D:=rwT.getD i .non
def bq {n:Nat}{p:Nat->Bool}(h:(List.range n).all p=true){i:Nat}(hi:i<n):p i=true:=uS h i (mem_range.mpr hi)
def Rm {i:Nat}(h:i<34):yy (dh [.str (v6 i)]) (qJ i):=Kk (bq (n:=34) (p:=λi=>MW (dh [.str (v6 i)]) (qJ i)) O9 h)
def MX {i:Nat}(h:i<34):yy (jq [qJ i]) (.str (v6 i)):=Kk (bq (n:=34) (p:=λi=>MW (jq [qJ i]) (.str (v6 i))) O9 h)
def Wr {i:Nat}(h:i<34):aU (qJ i)=true/\(eO (qJ i) .non)=false:=by
 have:=bq (n:=34) (p:=λi=>aU (qJ i) && !eO (qJ i) .non) O9 h;simpa using this
def O3 {i:Nat}(h:i<34):10∉(v6 i).cps.toList/\(v6 i).length<=40:=by
 have:=bq (n:=34) (p:=λi=>!(v6 i).cps.toList.contains 10 && Nat.ble (v6 i).length 40) O9 h;simpa using this
def RR:am=f8/\B8=cq/\Q7=f2/\Xs=f1/\uK=da/\Ux=nA/\Ol=fA/\uJ=ak/\fW=ai/\B6=bZ/\Ms=f6/\xO=cI/\Ab=c8/\YM=eY/\uL=f7/\B9=yX/\Xt=jM/\Xu=i6/\DL.Xv=qI/\B3=eF/\B4=gb/\Mr=io/\Bz=GF/\Mp=RU/\o0=lS:=
 ⟨xS,xP,mn,Aa,si,Ac,mo,sg,Oi,xN,B7,pO,jl,pP,sj,xQ,IF,IG,uM,xJ,xK,B5,xI,B1,pN⟩
@[simp] abbrev sF (d:D):OB:=some (d,false)
@[simp] noncomputable abbrev sI (x:Int):OB:=some (.int x,false)
@[simp] noncomputable abbrev sS (x:PySem.Str):OB:=some (.str x,false)
@[simp] noncomputable abbrev sJ (x:LD):OB:=some (.tup x,false)
@[simp] noncomputable abbrev sL (x:LD):OB:=some (.lst x,false)
@[simp] noncomputable abbrev sO (x:Bool):OB:=some (.bl x,false)
def MY (a:Int){m:Int}(h:0<m):jL (.int a) (.int m)=some (.int (a % m),false):=by simp[h]
def Zq (a:Int){m:Int}(h:0<m)(h2:m<1073741824):E4 (.int a) (.int m)=some (.int (a / m),false):=by simp[h,h2]
def im {f:FE}{ρ:DL.Env}{a m:Int}(e:f ρ=sI a)(h:0<m):f2 jL f (fI m) ρ=sI (a % m):=dm _ _ e r4 (MY a h)
def Ws {f:FE}{ρ:DL.Env}{a m:Int}(e:f ρ=sI a)(h:0<m)(h2:m<1073741824):f2 E4 f (fI m) ρ=sI (a / m):=dm _ _ e r4 (Zq a h h2)
def Fw (a:Int){b:Int}(h : -1000000<=b/\b<=1000000):lU (.int a) (.int b)=some (.int (a*b),false):=by
 have : -18446744073709551616<b/\b<18446744073709551616:=N9
 simp[this]
def vo {k:Int}(h : -1000000000000<=k/\k<=1000000000000):Builtin.Int.intBits k<=64:=intBits_le_64 N9 N9
noncomputable def O4:FS:=(bZ (f6 (c8 (f2 NL (ai 1) (fA cU (ak (ai 0) aI)))) (cq (f2 eY (ai 0) (ai 1))) b9)
  (bZ (cI 2 (f2 dG (f2 lU (fC (.int 120011)) (ai 1)) (fC (.int 59))))
  (bZ (f6 (c8 (f2 Xo (fA cU (ak (ai 0) aI)) (fC (.int 0)))) (cI 2 (f2 dG (f2 dG (f2 lU (f2 eY (ai 0) (f2 jL (f2 lU (ai 1) (fC (.int 47))) (fA cU (ak (ai 0) aI)))) (fC (.int 40014))) (f2 lU (f2 lU (ai 1) (ai 1)) (fC (.int 5009)))) (fC (.int 37)))) b9)
  (cq (f2 jL (f2 Q1 (ai 2) (ai 2)) (fC (.int 2147483563)))))))
def MZ:bM=f8 O4 2 1:=by
 unfold bM O4;simp only[RR,al]
def o9 {ns:LI}(hf:Sb ns)(k:Nat)(hk:k<=100):∃c:Int,bM [sc ns,.int k]=sI c:=by
 rw[MZ];have M:∀ρ:DL.Env,ρ[0]? = some (sL (ns.map .int))->fA cU (fV 0 aI) ρ=sI ns.length:=λρ h=>by
  simp_all
 have dZ:∀v:Int,Builtin.Int.intBits v<=2097152->cq (f2 jL (f2 Q1 (ai 2) (ai 2)) (fI 2147483563)) [sL (ns.map .int),sI k,sI v]=some (.rt (.int (v*v % 2147483563)) false):=λv e=>
  eP (im (dm (.int v) (.int v) r4 r4 (by simp[e])) Z9)
 by_cases h:k<ns.length
 .refine⟨ns.getD k 0,cB r4 (jS (pM (dm (.int k) (.int ns.length) r4 (M _ r4) W9)) (eP (dm (.lst (ns.map .int)) (.int k) r4 r4 ?_)))⟩;have:=Bv (xs:=ns) (i:=k) N9 (by simpa using h);rw[Int.toNat_natCast]at this;exact this
 .have U:Builtin.Int.intBits (120011*(k:Int)+59)<=64:=vo N9;have d:f2 dG (f2 lU (fI 120011) (ai 1)) (fI 59) [sL (ns.map .int),sI k,none]=sI (120011*k+59):=dm (.int (120011*k)) (.int 59) (dm (.int 120011) (.int k) r4 r4 (Fw _ N9)) r4 r4;have t1:c8 (f2 NL (ai 1) (fA cU (fV 0 aI))) [sL (ns.map .int),sI k,none]=some false:=pM (dm (.int k) (.int ns.length) r4 (M _ r4) W9);by_cases hz:0<ns.length
  .have O:(0:Int)<ns.length:=N9
   have h5:=mod_lt (x:=(k:Int)*47) O;obtain⟨j,hj⟩:∃j:Nat,(k:Int)*47 % ns.length=j:=⟨((k:Int)*47 % ns.length).toNat,N9⟩;have a:j<ns.length:=N9
   have hb:Builtin.Int.intBits (ns.getD j 0)<=1048576:=hf _ (by grind);have ei:f2 eY (ai 0) (f2 jL (f2 lU (ai 1) (fI 47)) (fA cU (fV 0 aI))) [sL (ns.map .int),sI k,sI (120011*k+59)]=sI (ns.getD j 0):=by
    refine dm (.lst (ns.map .int)) (.int j) r4 (hj ▸ dm (.int (k*47)) (.int ns.length) (dm (.int k) (.int 47) r4 r4 (Fw _ Z9)) (M _ r4) (MY _ O)) ?_;have:=Bv (xs:=ns) (i:=j) N9 (by simpa using a);rw[Int.toNat_natCast]at this;exact this
   generalize ns.getD j 0=x at hb ei;have f:(k:Int)*k<=10000/\0<=(k:Int)*k:=by
    have h1:k*k<=100*100:=Nat.mul_le_mul hk hk;grind
   have ev:f2 dG (f2 dG (f2 lU _ (fI 40014)) (f2 lU (f2 lU (ai 1) (ai 1)) (fI 5009))) (fI 37) [sL (ns.map .int),sI k,sI (120011*k+59)]=sI (x*40014+k*k*5009+37):=
    dm (.int (x*40014+k*k*5009)) (.int 37) (dm (.int (x*40014)) (.int (k*k*5009)) (dm (.int x) (.int 40014) ei r4 (Fw _ Z9)) (dm (.int (k*k)) (.int 5009) (dm (.int k) (.int k) r4 r4 (Fw _ N9)) r4 (Fw _ Z9)) r4) r4 r4
   generalize (k:Int)*k=y at f ev;have b:Builtin.Int.intBits (x*40014+y*5009+37)<=2097152:=by
    have h1:=intBits_mul_le hb (vo (k:=40014) Z9);have h2:=intBits_add_le h1 (vo (k:=y*5009) N9);have h3:=intBits_add_le h2 (vo (k:=37) Z9);exact vR h3 Z9
   exact⟨_,cB r4 (cW t1 (Oh (.int (120011*k+59)) d r4 (fD (Mm (pM (dm (.int ns.length) (.int 0) (M _ r4) r4 W9)) (Ij ev r4)) (dZ _ b))))⟩
  .refine⟨_,cB r4 (cW t1 (Oh (.int (120011*k+59)) d r4 (fD (zU (pM (dm (.int ns.length) (.int 0) (M _ r4) r4 (by rw[show(ns.length:Int)=0 by lia];rfl))) r4) (dZ (120011*k+59) (vR U Z9)))))⟩
noncomputable def bI (m c:Nat)(f:Bool):LN:=[0,1]++(List.range m).map (λk=>2+(c+3*k) % 8)++List.replicate (if f=true then 58 - m else 0) 10
def Wt {m c:Nat}{f:Bool}:∀i∈bI m c f,i<11:=by
 intro i h;unfold bI at h;rcases mem_append.mp h with h|h
 .rcases mem_append.mp h with h|h
  .simp at h;lia
  .obtain⟨k,_,rfl⟩:=mem_map.mp h;lia
 .rw[List.eq_of_mem_replicate h];decide
def Rn {m c:Nat}{f:Bool}(h:m<=6):(bI m c f).length=if f=true then 60 else m+2:=by
 unfold bI;rw[vA,vA,vI,length_range,length_replicate];cases f<;>simp<;>lia
abbrev cY (i:Nat):D:=.str (v6 i)
theorem oA:∀I:LN,bP (I.map cY)=true
 |[]=>by simp
 |i::I=>by rw[uZ,fz,oA I];simp
def yz {ns:LI}{k c:Int}{ρ:DL.Env}(e:bM [sc ns,.int k]=sI c)(h:ρ[0]? = some (sF (sc ns))):fA bM (ak (ai 0) (ak (fC (.int k)) aI)) ρ=sI c:=by
 simp[h,e]
theorem y0 {c:FT}{g:FS}(R:Nat->DL.Env):∀(j i N:Nat),j<N->(∀k,i<=k->k<i+j->c (R k)=some true/\g (R k)=some (.nx (R (k+1))))->c (R (i+j))=some false->eG c g N (R i)=some (.nx (R (i+j)))
 |0,i,N+1,_,_,e=>by unfold eG;rw[Nat.add_zero]at e;rw[e];rfl
 |j+1,i,N+1,h,s,e=>by
  obtain⟨s1,s2⟩:=s i (vT _) N9;unfold eG;rw[s1,s2,show i+(j+1)=i+1+j by lia];exact y0 R j (i+1) N N9 (λk a b=>s k N9 N9) (by rw[<-e];congr 2;lia)
def J0 {ns:LI}(hf:Sb ns):∃m c f,m<=6/\c<8/\yy (dz [sc ns]) (.lst ((bI m c f).map cY)):=by
 obtain⟨M,p⟩:=o9 hf 0 Z9;obtain⟨O,r⟩:=o9 hf 1 Z9;have h0:=mod_lt (x:=M) (m:=7) Z9;have h1:=mod_lt (x:=O) (m:=8) Z9;obtain⟨m,hm⟩:∃m:Nat,M % 7=m:=⟨(M % 7).toNat,N9⟩;obtain⟨c,hc⟩:∃c:Nat,O % 8=c:=⟨(O % 8).toNat,N9⟩;have hz:∀ {n:Nat},n<=100000->n<=sizeLine:=aQ;refine⟨m,c,decide (M / 7 % 9=4),N9,N9,true,?_⟩;obtain⟨ρ',e,U,l,rfl⟩:=xE (tg:=nA 4) (g:=bZ (cI 5 (f2 eY (ai 2) (f2 jL (f2 dG (fA bM (ak (ai 0) (ak (fC (.int 1)) aI))) (f2 lU (fC (.int 3)) (ai 4))) (fC (.int 8))))) (yW 1 (ai 5))) m
  (λi ρ=>∃U l,ρ=[sF (sc ns),some (.lst (([0,1]++(List.range i).map (λk=>2+(c+3*k) % 8)).map cY),true),some (.lst ([2,3,4,5,6,7,8,9].map cY),true),sI m,U,l])
  _ ⟨none,none,r4⟩ (by
   rintro i ρ hi ⟨U,l,rfl⟩;have q:(O+3*(i:Int)) % 8=((c+3*i) % 8:Nat):=N9
   have s:(c+3*i) % 8<8:=Nat.mod_lt _ Z9;generalize hj:(c+3*i) % 8=j at q s;refine⟨_,_,r4,.inl (Ii (d:=cY (2+j)) (b:=false) ?_ X9 (Ik (ds:=([0,1]++(List.range i).map (λk=>2+(c+3*k) % 8)).map cY) (d:=cY (2+j)) (b:=false) r4 r4 X9 (jU W9))),sI i,sF (cY (2+j)),?_⟩
   .refine dm (.lst ([2,3,4,5,6,7,8,9].map cY)) (.int j) r4 (q ▸ im (dm (.int O) (.int (3*i)) (yz r r4) (dm (.int 3) (.int i) r4 r4 (Fw _ N9)) r4) Z9) ?_;rcases j with z|z|z|z|z|z|z|z|j;iterate 8 rfl
    lia
   .show _::_=_;simp[List.range_succ,hj])
 have h2:([0,1]++(List.range m).map (λk=>2+(c+3*k) % 8)).length=m+2:=by simp<;>lia
 unfold bI;generalize [0,1]++(List.range m).map (λk=>2+(c+3*k) % 8)=J at e h2;unfold dz;simp only[RR,al,Nat.reduceDiv,Nat.reduceMod];let R:Nat->DL.Env:=λk=>[sF (sc ns),some (.lst ((J++List.replicate (k - (m+2)) 10).map cY),true),some (.lst ([2,3,4,5,6,7,8,9].map cY),true),sI m,U,l];have hR:∀k,m+2<=k->((J++List.replicate (k - (m+2)) 10).map cY).length=k:=λk hk=>by simp;lia
 have o:R (m+2)=[sF (sc ns),some (.lst (J.map cY),true),some (.lst ([2,3,4,5,6,7,8,9].map cY),true),sI m,U,l]:=by simp only[R,Nat.sub_self,List.replicate_zero,uR]
 have cR:∀k,m+2<=k->c8 (f2 NL (fA cU (ak (ai 1) aI)) (fC (.int 60))) (R k)=some (decide ((k:Int)<60)):=λk hk=>pM (dm (.int k) (.int 60) (by
  show cU [.lst _]=_;rw[Bw,hR k hk]) r4 r4)
 refine cB r4 (pL (ds:=[0,1].map cY) mk2 (oA _) (pL (ds:=[2,3,4,5].map cY) Zp (oA _) (pL (ds:=[2,3,4,5,6,7,8,9].map cY) (jT (x:=.lst ([2,3,4,5].map cY)) (y:=.lst ([6,7,8,9].map cY)) r4 Zp ?_) (oA _) (Oh (.int m) (hm ▸ im (yz p r4) Z9) X9 (fD (iL (gr (j:=m) (b:=false) r4 N9) e) (fD (ρ':=R (if M / 7 % 9=4 then 60 else m+2)) ?_ (Bt ?_)))))))
 .have:(4:Nat)+4<=sizeLine:=hz Z9;simp[this]
 .refine Ul (x:=decide (M / 7 % 9=4)) (pM (dm (.int (M / 7 % 9)) (.int 4) (im (Ws (yz p r4) Z9 Z9) Z9) r4 By)) (λh=>?_) λh=>?_
  .rw[if_pos (mw h)];have:=y0 (c:=c8 (f2 NL (fA cU (ak (ai 1) aI)) (fC (.int 60)))) (g:=yW 1 (fC (.str "7 found 7 ann"))) R (58 - m) (m+2) 1000 N9 (λk a b=>⟨by rw[cR k a,kh N9],?_⟩) (by rw[cR _ N9,mv N9])
   .rw[show m+2+(58 - m)=60 by lia]at this;rw[o]at this;exact this
   .refine(Ik (ds:=(J++List.replicate (k - (m+2)) 10).map cY) (d:=cY 10) (b:=false) r4 r4 X9 (jU (by rw[hR k a];lia))).trans ?_;show some (Res.nx _)=some (Res.nx _);simp only[R,show k+1 - (m+2)=k - (m+2)+1 by lia,List.replicate_succ',<-append_assoc,map_append];rfl
  .rw[if_neg (of_decide_eq_false h)];rw[o];rfl
 .show some (some (D.lst _,true))=_;by_cases h:M / 7 % 9=4
  .rw[if_pos h,if_pos (kh h)];rw[show 60 - (m+2)=58 - m by lia]
  .rw[if_neg h,if_neg (by simp[h]),Nat.sub_self]
noncomputable def eW:List PySem.Str:=(([""," ","stand 1","Stands 1","stands","stands 1 2","stands  1"," stands 1","stands 1 ","stands 01","stands -1","stands 60","stands a","stands 1.0","holds 1","holds 1 A","holds 1 abcdefghi","holds 1 a1","holds 1 ann bob","holds 60 ann","faults","faults 60","faults 1 1","leaning x","words","words 00"]:List String)++(["words +1","history 1 2","history 99","standing 1","standing ","text ","text 1","known","known 10000","known 01","known -","known 1 2","known ann","on","on 10000","on 007","on -1","on 1_0","holder","holder King","holder a b","holder ","holder kingkings","add","adds 1"]:List String)).map PySem.Str.ofString
noncomputable def gX:List PySem.Str:=["add ","add x","add 1 death 2 ann","add 1 death 1 Ann","add 1 copy 1 ann 60","add 1 paper 1 ann a 0 - -","add  1 death 1 ann","add 1 death 1 ann ","add 1 root pope ba 0 open","add 1 death 1 ann\n1 death 1 bob"]
noncomputable def ja:List PySem.Str:=["stands ","holds ","faults ","leaning ","words ","history "]
def tS (m:Nat):PySem.Str:=toString (m:Int)
def Ro (k m:Nat):PySem.Str:=ja.getD k "" ++ tS m++(if k=1 then (" ann":PySem.Str) else "")
def Fx (m:Nat):PySem.Str:="faults " ++ tS m
inductive Due (n:Nat):PySem.Str->D->Prop
 |word (j:Nat) (h:j<51):Due n (eW.getD j "") (.tup [.str "word",.non])
 |num (k m:Nat) (hk:k<6) (h:n<=m) (h2:m<60):Due n (Ro k m) (.tup [.str "number",.non])
 |flt (j:Nat) (h:j<2):Due n (Fx j) (.tup [.str "number",.non])
 |root (h:n<60):Due n "add 8 root king a 0 last" (.tup [.str "row",.int n])
 |death (h:n=60):Due n "add 8 death 8 ann" (.tup [.str "row",.int n])
 |text (j:Nat) (h:j<10):Due n (gX.getD j "") (.tup [.str "text",.int n])
def J6:dB []=some (.lst (eW.map .str),true):=mi O9
def Na:gO []=some (.lst (gX.map .str),true):=mi O9
theorem oB:∀l:List PySem.Str,bP (l.map D.str)=true
 |[]=>by simp
 |i::I=>by rw[uZ,fz,oB I];simp
def y6 {m:Nat}(h:m<=60):Fg [.int m]=sS (tS m)/\(tS m).length<=2:=by
 have:=bq (n:=61) (p:=λm=>decide ((m:Int).natAbs.log2<1920) && Nat.ble (tS m).length 2) O9 (show m<61 by lia);simp at this;exact⟨if_pos (by simpa using this.1),by simpa using this.2⟩
def Zr {l:List PySem.Str}{j:Nat}(h:j<l.length):eY (.lst (l.map .str)) (.int j)=sS (l.getD j ""):=by
 rw[zV N9 (by simpa using h)];simp[h]
def Zs (a b:PySem.Str):(a++b).length=a.length+b.length:=Array.size_append
def J7 {a b:PySem.Str}(h:a.length+b.length<=100000):dG (.str a) (.str b)=sS (a++b):=if_pos (aQ h)
def Zt {ρ:DL.Env}{fa:FA}{ds:LD}(h:fa ρ=some ds)(k:ds.length<=100000):fA jz fa ρ=some (.lst ds,true):=yD ds h (if_pos (aQ k))
def Rp {c:Int}(hc:0<=c){I:LN}(G:2<=I.length/\I.length<=60):∃row A,jo [.int c,.lst (I.map cY)]=sJ [.str row,A]/\Due I.length row A:=by
 have hw:=mod_lt (x:=c) (m:=6) Z9;have h2:(2:Nat)<=sizeLine:=aQ Z9;have hl:0<=c / 6:=Int.ediv_nonneg hc Z9;obtain⟨w,t⟩:∃w:Nat,c % 6=w:=⟨(c % 6).toNat,N9⟩;obtain⟨l,u⟩:∃l:Nat,c / 6=l:=⟨(c / 6).toNat,N9⟩;have len:∀ {ρ:DL.Env}{i:Nat}{ds:LD}{b:Bool},ρ[i]? = some (some (.lst ds,b))->fA cU (fV i aI) ρ=sI ds.length:=λh=>by simp[h]
 have mt:∀ {ρ:DL.Env}{fa B:FE}{a b:D},fa ρ=sF a->B ρ=sF b->fA cG (ak fa (ak B aI)) ρ=sJ [a,b]:=λh g=>by simp[h,g,h2]
 have mod:∀ {ρ:DL.Env}{f g:FE}{x y:Nat},f ρ=sI x->g ρ=sI y->0<y->f2 jL f g ρ=sI (x % y:Nat):=λh g k=>dm _ _ h g ((MY _ N9).trans X9);generalize hn:I.length=n at G;have H:(I.map cY).length=n:=by simpa using hn
 unfold jo;simp only[RR,al,Nat.reduceDiv,Nat.reduceMod];have pre:∀ {h:FS}{r},h [sI c,some (.lst (I.map cY),false),sI w,sI l,some (.lst (eW.map .str),true),none,none,none,none]=r->bZ (cI 2 (f2 jL (ai 0) (fC (.int 6)))) (bZ (cI 3 (f2 E4 (ai 0) (fC (.int 6)))) (bZ (cI 4 (fA dB aI)) h)) [sI c,some (.lst (I.map cY),false),none,none,none,none,none,none,none]=r:=λk=>
  Oh (.int w) (t ▸ im r4 Z9) X9 (Oh (.int l) (u ▸ Ws r4 Z9 Z9) X9 (pL (ds:=eW.map .str) J6 (oB _) k))
 by_cases P:w<3
 .refine⟨_,_,cB r4 (pre (jS (pM (dm (.int w) (.int 3) r4 r4 W9)) (eP (mt (dm (.lst (eW.map .str)) (.int (l % 51:Nat)) r4 (mod (x:=l) (y:=51) r4 (len (ds:=eW.map .str) r4) Z9) (Zr (Nat.mod_lt _ Z9))) (mt r4 r4))))),.word _ (Nat.mod_lt _ Z9)⟩
 have f1:∀b O U d e j,c8 (f2 NL (ai 2) (fC (.int 3))) [sI c,some (.lst (I.map cY),b),sI w,sI l,some (.lst (eW.map .str),O),U,d,e,j]=some false:=λZ Z Z Z Z Z=>pM (dm (.int w) (.int 3) r4 r4 W9);have M:∀b O U d e j,fA cU (ak (ai 1) aI) [sI c,some (.lst (I.map cY),b),sI w,sI l,some (.lst (eW.map .str),O),U,d,e,j]=sI n:=λZ Z Z Z Z Z=>(len r4).trans (by rw[H]);by_cases J:w=3/\n<60
 .obtain⟨Q,K⟩:=J;have hm:n+l / 8 % (60 - n)<60:=by have:=Nat.mod_lt (l / 8) (show 0<60 - n by lia);lia
  have o:=y6 (m:=n+l / 8 % (60 - n)) N9;have hk:l % 6<6:=Nat.mod_lt _ Z9;have L:∀b O U d e j,fA Fg (ak (f2 dG (fA cU (ak (ai 1) aI)) (f2 jL (f2 E4 (ai 3) (fC (.int 8))) (f2 PB (fC (.int 60)) (fA cU (ak (ai 1) aI))))) aI) [sI c,some (.lst (I.map cY),b),sI w,sI l,some (.lst (eW.map .str),O),U,d,e,j]=sS (tS (n+l / 8 % (60 - n))):=λZ Z Z Z Z Z=>
   yD [.int (n+l / 8 % (60 - n):Nat)] (Og (dm (.int n) (.int (l / 8 % (60 - n):Nat)) (M _ _ _ _ _ _) (mod (x:=l / 8) (y:=60 - n) (Ws (a:=l) (m:=8) r4 Z9 Z9) (dm (.int 60) (.int n) r4 (M _ _ _ _ _ _) W9) N9) r4) r4) o.1
  have kd:decide (ja.getD (l % 6) "" = "holds ")=decide (l % 6=1)/\(ja.getD (l % 6) "").length<=8:=by
   have:=bq (n:=6) (p:=λk=>(decide (ja.getD k "" = "holds ") == decide (k=1)) && Nat.ble (ja.getD k "").length 8) O9 hk;simpa using this
  refine⟨_,_,cB r4 (pre (cW (f1 _ _ _ _ _ _) (jS (oy (p:=true) (q:=true) (pM (dm (.int w) (.int 3) r4 r4 W9)) λZ=>pM (dm (.int n) (.int 60) (M _ _ _ _ _ _) r4 W9))
   (Oh (.str _) (L _ _ _ _ _ _) X9 (Oh (.str (ja.getD (l % 6) "")) (jT (x:=.lst (ja.map .str)) (b1:=true) (Zt r4 Z9) (mod (x:=l) (y:=6) r4 r4 Z9) (Zr hk)) X9 (eP (mt (dm (.str (ja.getD (l % 6) "" ++ tS (n+l / 8 % (60 - n)))) (.str (if l % 6=1 then (" ann":PySem.Str) else "")) (dm (.str (ja.getD (l % 6) "")) (.str (tS (n+l / 8 % (60 - n)))) r4 r4 (J7 (by have:=kd.2;have:=o.2;lia))) ?_ (J7 ?_)) (mt r4 r4)))))))),.num (l % 6) (n+l / 8 % (60 - n)) hk (Nat.le_add_right _ _) hm⟩
  .refine jT (x:=.lst [.str "",.str " ann"]) (b1:=true) (y:=.int (if l % 6=1 then 1 else 0)) (b2:=false) (Zt r4 Z9) (yD [.bl (decide (l % 6=1))] (Og (dm (.str (ja.getD (l % 6) "")) (.str "holds ") r4 r4 ?_) r4) X9) ?_
   .rw[<-kd.1];simp
   .by_cases z:l % 6=1
    .rw[if_pos z,if_pos z];rfl
    .rw[if_neg z,if_neg z];rfl
  .have:(ja.getD (l % 6) "" ++ tS (n+l / 8 % (60 - n))).length<=10:=by
    rw[Zs];have:=kd.2;have:=o.2;lia
   have:(if l % 6=1 then (" ann":PySem.Str) else "").length<=4:=by split<;>decide
   lia
 have v:∀b O U d e j,gb (c8 (f2 jM (ai 2) (fC (.int 3)))) (c8 (f2 NL (fA cU (ak (ai 1) aI)) (fC (.int 60)))) [sI c,some (.lst (I.map cY),b),sI w,sI l,some (.lst (eW.map .str),O),U,d,e,j]=some false:=λZ Z Z Z Z Z=>by
  rw[oy (p:=decide ((w:Int)=3)) (q:=decide ((n:Int)<60)) (pM (dm (.int w) (.int 3) r4 r4 X9)) λZ=>pM (dm (.int n) (.int 60) (M _ _ _ _ _ _) r4 X9)];by_cases z:w=3
  .rw[mv (show ¬(n:Int)<60 by lia),Bool.and_false]
  .rw[mv (show ¬(w:Int)=3 by lia),Bool.false_and]
 by_cases K:w=4
 .have o:=y6 (m:=l % 2) N9;have N:("faults " : PySem.Str).length+(tS (l % 2)).length<=100000:=by
   have:("faults " : PySem.Str).length=7:=Z9
   lia
  exact⟨Fx (l % 2),_,cB r4 (pre (cW (f1 _ _ _ _ _ _) (cW (v _ _ _ _ _ _) (jS (pM (dm (.int w) (.int 4) r4 r4 W9)) (eP (mt (dm (.str "faults ") (.str (tS (l % 2))) r4 (yD [.int (l % 2:Nat)] (Og (mod (x:=l) (y:=2) r4 r4 Z9) r4) o.1) (J7 N)) (mt r4 r4))))))),.flt _ (Nat.mod_lt _ Z9)⟩
 have C:∀b O U d e j,c8 (f2 jM (ai 2) (fC (.int 4))) [sI c,some (.lst (I.map cY),b),sI w,sI l,some (.lst (eW.map .str),O),U,d,e,j]=some false:=λZ Z Z Z Z Z=>pM (dm (.int w) (.int 4) r4 r4 W9);have s:∀b O U d e j,f2 jM (fA cU (ak (ai 1) aI)) (fC (.int 60)) [sI c,some (.lst (I.map cY),b),sI w,sI l,some (.lst (eW.map .str),O),U,d,e,j]=sO (decide (n=60)):=λZ Z Z Z Z Z=>dm (.int n) (.int 60) (M _ _ _ _ _ _) r4 W9;have E:∀b O U d e j,io (c8 (f2 jM (f2 jL (ai 3) (fC (.int 4))) (fC (.int 1)))) (c8 (f2 jM (fA cU (ak (ai 1) aI)) (fC (.int 60)))) [sI c,some (.lst (I.map cY),b),sI w,sI l,some (.lst (eW.map .str),O),U,d,e,j]=some (decide (l % 4=1) || decide (n=60)):=λZ Z Z Z Z Z=>
  Q0 (pM (dm (.int (l % 4:Nat)) (.int 1) (mod (x:=l) (y:=4) r4 r4 Z9) r4 W9)) λZ=>pM (s _ _ _ _ _ _)
 by_cases F:l % 4=1\/n=60
 .refine⟨if n=60 then "add 8 death 8 ann" else "add 8 root king a 0 last",_,cB r4 (pre (cW (f1 _ _ _ _ _ _) (cW (v _ _ _ _ _ _) (cW (C _ _ _ _ _ _) (jS ((E _ _ _ _ _ _).trans (by simpa using F)) (Oh (.str _) (jT (x:=.lst [.str "add 8 root king a 0 last",.str "add 8 death 8 ann"]) (b1:=true) (y:=.int (if n=60 then 1 else 0)) (b2:=false) (Zt r4 Z9) (yD [.bl (decide (n=60))] (Og (s _ _ _ _ _ _) r4) X9) ?_) X9 (eP (mt r4 (mt r4 (M _ _ _ _ _ _)))))))))),?_⟩
  .by_cases z:n=60
   .rw[if_pos z,if_pos z];rfl
   .rw[if_neg z,if_neg z];rfl
  .by_cases z:n=60
   .rw[if_pos z];exact .death z
   .rw[if_neg z];exact .root N9
 .exact⟨_,_,cB r4 (pre (cW (f1 _ _ _ _ _ _) (cW (v _ _ _ _ _ _) (cW (C _ _ _ _ _ _) (cW ((E _ _ _ _ _ _).trans (by simpa using F)) (pL (ds:=gX.map .str) Na (oB _) (eP (mt (jT (x:=.lst (gX.map .str)) (b1:=false) (y:=.int (l / 4 % 10:Nat)) (b2:=false) r4 (mod (x:=l / 4) (y:=10) (Ws (a:=l) (m:=4) r4 Z9 Z9) (len (ds:=gX.map .str) r4) Z9) (Zr (Nat.mod_lt _ Z9))) (mt r4 (M _ _ _ _ _ _)))))))))),.text _ (Nat.mod_lt _ Z9)⟩
noncomputable def jn (c:Nat):List LN->LN
 |[]=>[]
 |[x]=>x
 |x::y::r=>x++c::jn c (y::r)
theorem J8 {c:Nat}:∀ {x y r s:LN},c∉x->c∉y->x++c::r=y++c::s->x=y/\r=s
 |[],[],r,s,_,_,e=>by simpa using e
 |[],b::y,r,s,_,hy,e=>by
  simp at e hy;exact absurd e.1 hy.1
 |a::x,[],r,s,hx,_,e=>by
  simp at e hx;exact absurd e.1.symm hx.1
 |a::x,b::y,r,s,hx,hy,e=>by
  simp at e hx hy;obtain⟨h1,h2⟩:=J8 hx.2 hy.2 e.2;exact⟨by rw[e.1,h1],h2⟩
theorem J9 {c:Nat}:∀ {l m:List LN},(∀x∈l,c∉x)->(∀x∈m,c∉x)->l≠[]->m≠[]->jn c l=jn c m->l=m
 |[],_,_,_,h,_,_=>absurd r4 h
 |_::_,[],_,_,_,h,_=>absurd r4 h
 |[x],[y],_,_,_,_,e=>by have e:x=y:=e;rw[e]
 |[x],y::z::r,hl,_,_,_,e=>by
  have e:x=y++c::jn c (z::r):=e;exact absurd (by rw[e];simp) (hl x X9)
 |x::z::r,[y],_,hm,_,_,e=>by
  have e:x++c::jn c (z::r)=y:=e;exact absurd (by rw[<-e];simp) (hm y X9)
 |x::z::r,y::w::s,hl,hm,_,_,e=>by
  have e:x++c::jn c (z::r)=y++c::jn c (w::s):=e;obtain⟨h1,h2⟩:=J8 (hl x X9) (hm y X9) e;rw[h1,J9 (l:=z::r) (m:=w::s) (λa h=>hl a (mZ _ h)) (λa h=>hm a (mZ _ h)) X9 X9 h2]
theorem DM (c:Nat):∀ws:LS,(Str.join ⟨#[c]⟩ ws).cps.toList=jn c (ws.map (·.cps.toList))
 |[]=>r4
 |[x]=>r4
 |x::y::r=>by
  show((x++⟨#[c]⟩++Str.join ⟨#[c]⟩ (y::r):Str).cps).toList=x.cps.toList++c::jn c ((y::r).map (·.cps.toList));rw[<-DM c (y::r)];show((x.cps++#[c])++(Str.join ⟨#[c]⟩ (y::r)).cps).toList=_;simp
def JB (M:Str)(ws:LS):Txt.join M ws=Str.join M ws:=StrLaws.glued_eq_join M ws
def Aw (x y:Str):Txt.split x y≠[]:=λh=>by have:=PyProof.Rows.split_pos x y;rw[h]at this;simp at this
def Ax {c:Nat}{ws:LS}(h0:ws≠[])(h:∀w∈ws,c∉w.cps.toList):Txt.split (Txt.join ⟨#[c]⟩ ws) ⟨#[c]⟩=ws:=by
 rw[JB];have e:=congrArg (λz:Str=>z.cps.toList) (StrLaws.join_split (Str.join ⟨#[c]⟩ ws) ⟨#[c]⟩);simp only[DM]at e;have hf:=StrLaws.split_free (Str.join ⟨#[c]⟩ ws) c;have:=J9 (c:=c) (by
  intro x hx;obtain⟨z,hz,rfl⟩:=mem_map.mp hx;exact hf z hz) (by
  intro x hx;obtain⟨z,hz,rfl⟩:=mem_map.mp hx;exact h z hz) (by simp[Aw]) (by simp[h0]) e
 have inj:∀ {a b:Str},a.cps.toList=b.cps.toList->a=b:=λ{a b} e=>by
  obtain⟨a⟩:=a;obtain⟨b⟩:=b;simp at e;rw[e]
 exact List.map_inj_right (λa b e=>inj e) |>.mp this
def Rq {l:LS}{k:Nat}(h:∀x∈l,x.length<=k):(l.map (·.length)).sum<=l.length*k:=by
 induction l with
 |nil=>simp
 |cons x l M=>
  have h1:=h x X9;have h2:=M λy hy=>h y (by simp[hy]);rw[uZ,List.sum_cons,vE,Nat.add_mul];lia
def Wu {c:FT}{f g:FE}{ρ:DL.Env}{r:OB}(e:c ρ=some true)(k:f ρ=r):RS c f g ρ=r:=by unfold RS;rw[e];exact k
noncomputable def Ay (I:LN):PySem.Str:=Txt.join "\n" (I.map v6)
abbrev cQ (I:LN):LD:=I.map qJ
section
variable {I:LN}(hI:∀i∈I,i<34) (hl:I.length<=62)
include hI hl
theorem Wv:((I.map v6).map (·.length)).sum<=62*40:=by
 have h1:=Rq (l:=I.map v6) (k:=40) (by
  intro u hu;obtain⟨i,hi,rfl⟩:=mem_map.mp hu;exact(O3 (hI i hi)).2)
 rw[vI]at h1;exact vR h1 (Nat.mul_le_mul_right _ hl)
theorem vp:kP (.str "\n") (.lst (I.map cY))=sS (Ay I):=by
 have e:I.map cY=(I.map v6).map D.str:=by rw[map_map];rfl
 have h1:=Wv hI hl;have h2:("\n" : PySem.Str).length=1:=O9
 show(gV (I.map cY)).bind _=_;rw[e,E7];exact if_pos (by rw[h2,vI];lia)
theorem JD:l7 [.tup (cQ I)]=sS (Ay I):=by
 unfold l7;simp only[RR,al,Nat.reduceDiv,Nat.reduceMod];refine cB r4 (eP (jT (x:=.str "\n") (y:=.lst (I.map cY)) (b1:=false) (b2:=true) r4 ?_ (vp hI hl)));refine Of I qJ cY r4 N9 λi hi=>?_;obtain⟨b,e⟩:=MX (hI i hi);exact⟨_,r4,b,ou (ds:=[qJ i]) r4 e⟩
theorem Rr:bP (cQ I)=true:=by
 clear hl;induction I with
 |nil=>simp
 |cons i I M=>
  have:bc (qJ i)=true:=bq (n:=34) (p:=λi=>nl (qJ i)) O9 (hI i X9) |> λh=>by rwa [IC]at h
  rw[cQ,uZ,fz,this];exact M λj hj=>hI j (by simp[hj])
theorem DN (h0:I≠[]){r:OB}(er:aT [.lst (cQ I)]=r)(O:r.isSome=true):d4 [.str (Ay I)]=r:=by
 obtain⟨⟨d,b⟩,rfl⟩:=uV O;have h1:=Wv hI hl;have M:("\n" : PySem.Str)=⟨#[10]⟩:=O9
 have U:(Ay I).length<=100000:=by
  refine vR (Il _ (I.map v6)) ?_;rw[vI,M,xF];lia
 have hs:Txt.split (Ay I) ⟨#[10]⟩=I.map v6:=by
  unfold Ay;rw[M];exact Ax (by simpa using h0) λw hw=>by
   obtain⟨i,hi,rfl⟩:=mem_map.mp hw;exact(O3 (hI i hi)).1
 have vF:¬Ay I = "":=λe=>by
  rw[e,show Txt.split "" ⟨#[10]⟩=[("":PySem.Str)]from by decide +kernel]at hs;obtain⟨i,J,rfl⟩:=List.exists_cons_of_ne_nil h0;rw[uZ]at hs;have:=(List.cons.inj hs).1;have h:=bq (n:=34) (p:=λi=>!decide ("" = v6 i)) O9 (hI i X9);simp[<-this]at h
 unfold d4;simp only[RR,al,Nat.reduceDiv,Nat.reduceMod];refine cB r4 (cW (Bu (p:=true) X9) (pL (ds:=(I.map v6).map .str) (Wu (ml (b:=false) (jT (x:=.str (Ay I)) (y:=.str "") (b1:=false) (b2:=false) r4 r4 (by simp[vF]))) (jT (x:=.str (Ay I)) (y:=.str ⟨#[10]⟩) (b1:=false) (b2:=false) r4 (by rw[M];rfl) ?_)) (oB _) (pL (ds:=cQ I) ?_ (Rr hI hl) (cW (ml (b:=false) (jT (x:=.non) (y:=.lst (cQ I)) (b1:=false) (b2:=false) r4 r4 ?_)) (eP (ou (ds:=[.lst (cQ I)]) r4 er))))))
 .have:0<(⟨#[10]⟩:Str).length/\(Ay I).length<=100000:=⟨by rw[xF];lia,U⟩;simp only[gM,if_pos this,hs]
 .refine Of I cY qJ ?_ N9 λi hi=>?_
  .show some ((I.map v6).map D.str)=_;rw[map_map];rfl
  .obtain⟨b,e⟩:=Rm (hI i hi);exact⟨_,r4,b,ou (ds:=[cY i]) r4 e⟩
 .have h:∀d∈cQ I,Sc d=true/\xH d=false:=λd hd=>by
   obtain⟨i,hi,rfl⟩:=mem_map.mp hd;have:=bq (n:=34) (p:=λi=>Sc (qJ i) && !xH (qJ i)) O9 (hI i hi);simpa using this
  have h1:(cQ I).all Sc=true:=all_eq_true.mpr λd hd=>(h d hd).1;have h2:(cQ I).any xH=false:=List.any_eq_false.mpr λd hd=>by rw[(h d hd).2];decide
  show(if(cQ I).all Sc=true then _ else _)=_;rw[if_pos h1,h2]
end
def DO {l:LD}{r:D}{p:Nat}(h:p<=l.length):DL.um (l++[r]) none (some (p:Int))=DL.um l none (some (p:Int)):=by
 unfold DL.um;rw[xG N9,xG N9,vA];have M:∀n,HT.cH n 0 none=0:=λz=>r4;rw[M,M,Int.toNat_natCast,Nat.min_eq_left h,Nat.min_eq_left (Nat.le_add_right_of_le h),List.drop_zero,List.drop_zero,Nat.sub_zero,List.take_append_of_le_length h]
def Rs {c:FT}{x:D}{f:FS}{O M:DL.Env}(hc:c O=c M)(hf:f O=f M):bZ (f6 c (cq (fC x)) b9) f O=bZ (f6 c (cq (fC x)) b9) f M:=by
 unfold bZ f6;rw[hc];cases c M with
 |none=>rfl
 |some b=>cases b with
  |false=>exact hf
  |true=>rfl
def Ww {g:FS}{a M b:D}(h:g [sF a,sF b]=g [sF M,sF b]):f8 g 2 0 [a,b]=f8 g 2 0 [M,b]:=by
 have e:∀x,f8 g 2 0 [x,b]=match g [sF x,sF b] with|some (.rt d b)=>some (d,b)|some (.nx _)=>some (.non,false)|_=>none:=λz=>r4
 rw[e,e,h]
def qE {l:LD}{r:D}{p:Nat}(h:p<l.length):aM [.tup (l++[r]),.int p]=aM [.tup l,.int p]:=by
 unfold aM;simp only[RR,al,Nat.reduceDiv,Nat.reduceMod];have O:f2 eY (ai 0) (ai 1) [sJ (l++[r]),sI p]=f2 eY (ai 0) (ai 1) [sJ l,sI p]:=by
  have e:∀d,f2 eY (ai 0) (ai 1) [sF d,sI p]=eY d (.int p):=λz=>r4;rw[e,e,DL.tI N9 W9,DL.tI N9 (by simpa using h),Int.toNat_natCast,getD_eq_getElem?_getD,getD_eq_getElem?_getD,getElem?_append_left h]
 have e2:Ly (ai 0) kI (j4 (ai 1)) [sJ (l++[r]),sI p]=Ly (ai 0) kI (j4 (ai 1)) [sJ l,sI p]:=by
  simp[DO (r:=r) (le_of_lt h)]
 have U:Ly (ai 0) kI (j4 (f2 dG (ai 1) (fC (.int 1)))) [sJ (l++[r]),sI p]=Ly (ai 0) kI (j4 (f2 dG (ai 1) (fC (.int 1)))) [sJ l,sI p]:=by
  have:=DO (l:=l) (r:=r) (p:=p+1) h;rw[show((p+1:Nat):Int)=(p:Int)+1 by lia]at this;simp[this]
 have c:∀x,f2 PD (ai 1) x [sJ (l++[r]),sI p]=(x [sJ (l++[r]),sI p]).bind λy=>PD (.int p) y.1:=λz=>r4;have M:∀x,f2 PD (ai 1) x [sJ l,sI p]=(x [sJ l,sI p]).bind λy=>PD (.int p) y.1:=λz=>r4;have f:∀x y ρ,f2 Xo x y ρ=(x ρ).bind λa=>(y ρ).bind λb=>Xo a.1 b.1:=λz z z=>r4;refine Ww (Rs ?_ ?_)
 .simp only[io,eF,c8,fA,ak,aI,fC,c,M,O]
 .simp only[cq,fA,ak,aI,RU,fC,O,e2,U,f]
def fR (l:LD):Bool:=(List.range l.length).all λp=>match aM [.tup l,.int p] with
 |some (.bl b,_)=>!b
 |_=>false
set_option tactic.hygienic true in
def lD {l:LD}(h:fR l=true){p:Nat}(hp:p<l.length):∃b,aM [.tup l,.int p]=some (.bl false,b):=by
 have:=bq h hp;split at this
 .rename_i b c e;cases b with
  |false=>exact⟨c,e⟩
  |true=>cases this
 .cases this
def JF (l:LD)(r:D)(v:Bool):Bool:=match aM [.tup (l++[r]),.int l.length] with
 |some (.bl b,_)=>b == v
 |_=>false
set_option tactic.hygienic true in
def DP {l:LD}{r:D}{v:Bool}(h:JF l r v=true):∃b,aM [.tup (l++[r]),.int l.length]=some (.bl v,b):=by
 unfold JF at h;split at h
 .rename_i b c e;exact⟨c,by rw[e,eq_of_beq h]⟩
 .cases h
def Az {l:LD}{r:D}(h:fR l=true)(M:JF l r false=true):fR (l++[r])=true:=by
 unfold fR;rw[all_eq_true];intro p hp;rw[mem_range,vA]at hp;by_cases z:p<l.length
 .obtain⟨b,e⟩:=lD h z;rw[qE z,e];rfl
 .obtain⟨b,e⟩:=DP M;rw[show p=l.length by simp at hp;lia,e];rfl
def Zu {M:FA}{tg:FG}{g:FS}{ρ:DL.Env}{ds:LD}(e:M ρ=some ds):f7 M tg g ρ=dr tg g ds ρ:=by unfold f7;rw[e];rfl
theorem y7 {tg:FG}{g:FS}(R:DL.Env->Prop):∀ {a b:LD},(∀d∈a,∀ρ,R ρ->∃M ρ',tg d ρ=some M/\g M=some (.nx ρ')/\R ρ')->∀ρ,R ρ->∃ρ',R ρ'/\dr tg g (a++b) ρ=dr tg g b ρ'
 |[],b,_,ρ,h=>⟨ρ,h,r4⟩
 |d::a,b,s,ρ,h=>by
  refine cX λG K=>?_;obtain⟨M,O,c,e2,h2⟩:=s d X9 ρ h;obtain⟨U,h3,e⟩:=y7 R (a:=a) (b:=b) (λd hd=>s d (by simp[hd])) O h2;apply K;refine⟨U,h3,?_⟩;rw[cons_append,lR,c];dsimp only[vJ];rw[e2];exact e
def Wx {g:FS}{n k:Nat}{ds:LD}{d:D}{b:Bool}(hl:ds.length=n)(e:g (ds.map (λd=>some (d,false))++List.replicate k none)=some (.rt d b)):fG g n k ds=some (d,b):=by
 unfold fG;rw[if_pos hl,e]
def Wy {g:FS}{n k:Nat}{ds:LD}(hl:ds.length=n)(e:g (ds.map (λd=>some (d,false))++List.replicate k none)=none):fG g n k ds=none:=by
 unfold fG;rw[if_pos hl,e]
def A0 (n:Nat):bU 0 (n+1)=bU 0 n++[.int n]:=by
 unfold bU;rw[List.range_succ,map_append];simp
section
variable {l:LD}{x:D}(hx:x=.tup l\/x=.lst l) (hl:l.length<=61)
include hx hl
theorem JG:kU [x]=some (.tup l,false):=by
 have hz:l.length<=sizeLine:=aQ N9;rcases hx with rfl|rfl
 .simp
 .simp[hz]
theorem jY {l':LD}(h:∀p<l'.length,∃b,aM [.tup l,.int p]=some (.bl false,b))(M:FS)(b:LD):
  ∃v,dr (nA 2) (f6 (c8 (fA aM (ak (ai 1) (ak (ai 2) aI)))) M b9) (bU 0 l'.length++b) [sF x,sJ l,none]=dr (nA 2) (f6 (c8 (fA aM (ak (ai 1) (ak (ai 2) aI)))) M b9) b [sF x,sJ l,v]:=by
 obtain⟨ρ',⟨v,rfl⟩,e⟩:=y7 (tg:=nA 2) (g:=f6 (c8 (fA aM (ak (ai 1) (ak (ai 2) aI)))) M b9) (λρ=>∃v,ρ=[sF x,sJ l,v]) (a:=bU 0 l'.length) (b:=b) (by
  rintro d hd ρ ⟨v,rfl⟩;unfold bU at hd;obtain⟨i,hi,rfl⟩:=mem_map.mp hd;rw[mem_range]at hi;obtain⟨b,e⟩:=h i hi;refine⟨_,_,r4,?_,some (.int (0+i),false),r4⟩;exact zU (ml (yD [.tup l,.int (0+i)] r4 (by rw[Int.zero_add];exact e))) r4) _ ⟨none,r4⟩
 exact⟨v,e⟩
theorem qF {O:FS}:f6 (eF (c8 (fA om (ak (ai 0) (ak (fA cG (ak (fC (.ty "list")) (ak (fC (.ty "tuple")) aI))) aI))))) O b9 [sF x,none,none]=some (.nx [sF x,none,none]):=by
 have M:2<=sizeLine:=aQ Z9;refine zU (Bu (p:=true) ?_) r4;rcases hx with rfl|rfl<;>simp[M]
theorem vq:cI 1 (fA kU (ak (ai 0) aI)) [sF x,none,none]=some (.nx [sF x,sJ l,none]):=Uj (yD [x] r4 (JG hx hl)) r4
theorem A1 (h:fR l=true):yy (aT [x]) (.tup l):=by
 obtain⟨v,e⟩:=jY hx hl (l':=l) (λp hp=>lD h hp) gJ [];rw[uR,pb]at e;refine⟨false,?_⟩;unfold aT;simp only[RR,al,Nat.reduceDiv,Nat.reduceMod];exact cB r4 (fD (qF hx hl) (fD (vq hx hl) (fD (iL (gr (j:=l.length) (b:=false) r4 N9) e) (Bt r4))))
theorem Rt (h:fR l=true):aX [x]=none:=by
 obtain⟨v,e⟩:=jY hx hl (l':=l) (λp hp=>lD h hp) (cq (ai 2)) [];rw[uR,pb]at e;exact Wy r4 (fD (qF hx hl) (fD (vq hx hl) (fD (iL (gr (j:=l.length) (b:=false) r4 N9) e) r4)))
end
def Ru {l:LD}{r:D}(hl:l.length<=60)(h:fR l=true)(O:JF l r true=true):aX [.tup (l++[r])]=some (.int l.length,false):=by
 have M:(l++[r]).length<=61:=W9
 obtain⟨v,e⟩:=jY (x:=.tup (l++[r])) (.inl r4) M (l':=l) (λp hp=>by rw[qE hp];exact lD h hp) (cq (ai 2)) [.int l.length];rw[<-A0]at e;obtain⟨b,er⟩:=DP O;refine Wx r4 (fD (qF (.inl r4) M) (fD (vq (.inl r4) M) (Uk ((Zu (gr (j:=l.length+1) (b:=false) (by show cU [.tup (l++[r])]=_;simp) N9)).trans (e.trans ?_)))));rw[lR];show(match f6 _ _ _ [sJ (l++[r]),sJ (l++[r]),sI l.length] with|some (.nx ρ')=>dr _ _ [] ρ'|some (.ct ρ')=>dr _ _ [] ρ'|some (.bk ρ')=>some (.nx ρ')|r=>r)=_;rw[Mm (r:=some (.rt (.int l.length) false)) (ml (yD [.tup (l++[r]),.int l.length] r4 er)) r4]
abbrev kW:D:=.tup [.str "word",.non]
abbrev kN:D:=.tup [.str "number",.non]
def lE (x:PySem.Str):isS (.str x)=some false:=rfl
def nI (row:PySem.Str)(s:D):Bool:=decide (Wg (.str row)=some false) && (lC [.str row]).isNone && MW (lw [.str row]) s
theorem lF {row:PySem.Str}{s:D}(h:nI row s=true)(bk:D)(kn on:Int):fm bk kn on (.str row)=match aH [bk,.int kn,s] with
 |some d=>some (.number d)
 |none=>(bj [bk,.int kn,s]).bind λz=>(kT s "known").bind λc=>if c=true then (eY s (.int 1)).bind λn=>match n.1 with
    |.int i=>some (.ok bk i on)
    |_=>none
   else (kT s "on").bind λc=>if c=true then (eY s (.int 1)).bind λn=>match n.1 with
    |.int i=>some (.ok bk kn i)
    |_=>none
   else (bX [bk,.int kn,.int on,s]).map .ans:=by
 unfold nI at h;rw[vD,vD]at h;obtain⟨⟨h1,h2⟩,h3⟩:=h;obtain⟨b,h3⟩:=Kk h3;unfold fm;rw[lE,mw h1,Option.isNone_iff_eq_none.mp h2,h3];rfl
def jb {row:PySem.Str}{s:D}{bk:D}{kn on:Int}(h:nI row s=true)(hx:(aH [bk,.int kn,s]).isSome=true):bY bk kn on (.str row)=some kN:=by
 obtain⟨d,e⟩:=uV hx;unfold bY;rw[lF h,e];rfl
def jZ {row:PySem.Str}{s d:D}{bk:D}{kn on:Int}{b:Bool}(h:nI row s=true)(hk:kT s "known" = some false)(M:kT s "on" = some false)(hx:aH [bk,.int kn,s]=none)(hf:(bj [bk,.int kn,s]).isSome=true)(ha:bX [bk,.int kn,.int on,s]=some (d,b)):gR bk kn on (.str row)=some d:=by
 obtain⟨x,e⟩:=uV hf;unfold gR;rw[lF h,hx,e];dsimp only[vJ];rw[hk,M,ha];rfl
def JH (row:PySem.Str):Bool:=decide (Wg (.str row)=some false) && (lC [.str row]).isSome
def Fy {row:PySem.Str}(h:JH row=true)(bk:D)(kn on:Int):bY bk kn on (.str row)=some kW:=by
 unfold JH at h;rw[vD]at h;obtain⟨d,e⟩:=uV h.2;unfold bY fm;rw[lE,mw h.1,e];rfl
def JJ {j:Nat}(h:j<51)(bk:D)(kn on:Int):bY bk kn on (.str (eW.getD j ""))=some kW:=
 Fy (bq (n:=51) (p:=λj=>JH (eW.getD j "")) O9 h) bk kn on
def Fz (bk:D)(kn on:Int):∀d∈[D.non,.int 7,.lst [.str "text"],.bl true],bY bk kn on d=some kW:=by
 intro d hd;simp at hd;rcases hd with rfl|rfl|rfl|rfl<;>rfl
def O5 (row:PySem.Str):Bool:=decide (Wg (.str row)=some true) && match QZ (.str row) with
 |some (l,_)=>MW (dh [l]) .non
 |none=>false
set_option tactic.hygienic true in
def JL {j:Nat}(h:j<10)(M:LD)(kn on:Int):bY (.tup M) kn on (.str (gX.getD j ""))=some (.tup [.str "text",.int M.length]):=by
 have h:=bq (n:=10) (p:=λj=>O5 (gX.getD j "")) O9 h;generalize gX.getD j "" = row at h |-;unfold O5 at h;rw[vD]at h;obtain⟨h1,h2⟩:=h;split at h2
 .rename_i l b e;obtain⟨O,e2⟩:=Kk h2;unfold bY fm;rw[lE,mw h1,e];dsimp only[vJ];rw[if_neg Z9,if_pos r4];unfold sY;rw[e2];rfl
 .cases h2
def Nc (row:PySem.Str)(d:D):Bool:=decide (Wg (.str row)=some true) && !eO d .non && match QZ (.str row) with
 |some (l,_)=>MW (dh [l]) d
 |none=>false
theorem tj {l d:D}{U:Bool}(e2:dh [l]=some (d,U))(hd:(!eO d .non)=true){M:LD}(h0:M.isEmpty=false)(hl:M.length<=60):sY (.tup M) l=match aX [.tup (M++[d])] with
  |some d=>some (Res.row d)
  |none=>(aT [.tup (M++[d])]).map λy=>Res.ok y.1:=by
 have sz:M.length+[d].length<=sizeLine/\M.isEmpty=false:=⟨aQ W9,h0⟩;have O:[d].length<=sizeLine:=aQ (show 1<=100000 by decide);unfold sY;rw[e2];have:(match (d,U).1 with|.non=>(cU [.tup M]).map Res.text|x=>(cG [x]).bind λt=>(dG (.tup M) t.1).bind λz=>match aX [z.1] with
   |some d=>some (Res.row d)
   |none=>(aT [z.1]).map λy=>Res.ok y.1)=(cG [d]).bind λt=>(dG (.tup M) t.1).bind λz=>match aX [z.1] with
   |some d=>some (Res.row d)
   |none=>(aT [z.1]).map λy=>Res.ok y.1:=by
  cases d<;>first|rfl|(simp[eO]at hd)
 refine Eq.trans this ?_;simp only[cG,if_pos O,vJ,dG,if_pos sz]
set_option tactic.hygienic true in
def vt {row:PySem.Str}{d e:D}(h:Nc row d=true){M:LD}(h0:M.isEmpty=false)(hl:M.length<=60)(kn on:Int)(hx:yy (aX [.tup (M++[d])]) e):bY (.tup M) kn on (.str row)=some (.tup [.str "row",e]):=by
 unfold Nc at h;rw[vD,vD]at h;obtain⟨⟨h1,hd⟩,h2⟩:=h;obtain⟨U,ex⟩:=hx;split at h2
 .rename_i l b O;obtain⟨a,e2⟩:=Kk h2;unfold bY fm;rw[lE,mw h1,O];dsimp only[vJ];rw[if_neg Z9,if_pos r4,tj e2 hd h0 hl,ex];rfl
 .cases h2
set_option tactic.hygienic true in
def Nd {row:PySem.Str}{d:D}(h:Nc row d=true){M:LD}(h0:M.isEmpty=false)(hl:M.length<=60)(kn on:Int)(U:fR (M++[d])=true):fm (.tup M) kn on (.str row)=some (.ok (.tup (M++[d])) kn on):=by
 unfold Nc at h;rw[vD,vD]at h;obtain⟨⟨h1,hd⟩,h2⟩:=h;have O:(M++[d]).length<=61:=W9
 obtain⟨c,ex⟩:=A1 (x:=.tup (M++[d])) (.inl r4) O U;have en:=Rt (x:=.tup (M++[d])) (.inl r4) O U;split at h2
 .rename_i l b a;obtain⟨e,e2⟩:=Kk h2;unfold fm;rw[lE,mw h1,a];dsimp only[vJ];rw[if_neg Z9,if_pos r4,tj e2 hd h0 hl,en];dsimp only;rw[ex];rfl
 .cases h2
noncomputable def A2 (k m:Nat):D:=.lst (.str ((["stands","holds","faults","leaning","words","history"].map PySem.Str.ofString).getD k "")::.int m::if k=1 then [.str "ann"]else [])
def Nf {k m:Nat}(hk:k<6)(hm:m<60){M:LD}(h:M.length<=m)(kn on:Int):bY (.tup M) kn on (.str (Ro k m))=some kN:=by
 refine jb (s:=A2 k m) ?_ ?_
 .rcases k with z|z|z|z|z|z|k;iterate 6 exact bq (p:=λm=>nI (Ro _ m) (A2 _ m)) O9 hm
  lia
 .have t2:c8 (f2 PD (f2 eY (ai 2) (fC (.int 1))) (fA cU (ak (ai 0) aI))) [sJ M,sI kn,sF (A2 k m)]=some true:=
   pM (dm (.int m) (.int M.length) (dm (A2 k m) (.int 1) r4 r4 (by rw[<-pP];rfl)) X9 W9)
  have t1:c8 (f2 qI (fC (.str "number")) (f1 (zx dA) (f2 eY (ai 2) (fC (.int 0))))) [sJ M,sI kn,sF (A2 k m)]=some true:=by
   rw[<-jl,<-mn,<-Aa,<-pP,<-uM];rcases k with z|z|z|z|z|z|k;iterate 6 kernel_rfl
   lia
  have:aH [.tup M,.int kn,A2 k m]=some (.non,false):=by
   unfold aH dJ fG;have e:=jS (g':=b9) (h:=(f6 (gb (c8 (f2 jM (f2 eY (ai 2) (fC (.int 0))) (fC (.str "faults")))) (eF (c8 (fA eV (ak (ai 0) (ak (ai 1) (ak (f2 eY (ai 2) (fC (.int 1))) aI))))))) (cq (fC .non)) b9)) (oy (p:=true) (q:=true) t1 λz=>t2) (eP (f:=fC .non) (d:=.non) (b:=false) r4);dsimp only[vE,length_nil];rw[if_pos I9];show(match bZ _ _ [sJ M,sI kn,sF (A2 k m)] with|some (.rt d b)=>some (d,b)|_=>none)=_;rw[e]
  rw[this];rfl
noncomputable def JM (o:OB):Bool:=match o with
 |some (.str _,_)=>true
 |_=>false
abbrev jE:D:=.lst [.str "standing"]
noncomputable abbrev jF:D:=.lst [.str "holder",.str "king"]
abbrev qG:D:=.lst [.str "stands",.int 1]
def yE (I:LN):Bool:=
 fR (cQ I) && JF (cQ I) (qJ (if I.length=60 then 12 else 11)) true
 && ((aH [.tup (cQ I),.int 9999,.lst [.str "faults",.int 0]]).isSome && (aH [.tup (cQ I),.int 9999,.lst [.str "faults",.int 1]]).isSome)
 && ((List.range (min I.length 12)).all λk=>!(Nat.ble 2 (I.getD k 0) && Nat.ble (I.getD k 0) 4) || (aH [.tup (cQ I),.int 0,.lst [.str "faults",.int k]]).isSome)
 && ((aH [.tup (cQ I),.int 9999,qG]).isNone && (bj [.tup (cQ I),.int 9999,qG]).isSome)
 && ((List.range 9).all λon=>JM (bX [.tup (cQ I),.int 9999,.int on,jE]) && JM (bX [.tup (cQ I),.int 9999,.int on,jF]) && JM (bX [.tup (cQ I),.int 9999,.int on,qG]))
def y8:nI "text" (.lst [.str "text"])=true:=O9
def tm:nI "standing" jE=true:=O9
def y9:nI "holder king" jF=true:=O9
def F0:nI "stands 1" qG=true:=O9
def vv {k:Nat}(h:k<12):nI (Fx k) (.lst [.str "faults",.int k])=true:=bq (n:=12) (p:=λk=>nI (Fx k) (.lst [.str "faults",.int k])) O9 h
def Rv:∀s∈[D.lst [.str "text"],jE,jF,qG],kT s "known" = some false/\kT s "on" = some false:=by
 have:([D.lst [.str "text"],jE,jF,qG].all λs=>decide (kT s "known" = some false) && decide (kT s "on" = some false))=true:=O9
 intro s hs;simpa using uS this s hs
def F4 (bk:D)(kn:Int):∀s∈[D.lst [.str "text"],jE,jF],aH [bk,.int kn,s]=none/\(bj [bk,.int kn,s]).isSome=true:=by
 intro s hs;simp at hs;rcases hs with rfl|rfl|rfl<;>exact⟨r9,r9⟩
def tq {bk:D}{tx:PySem.Str}(h:l7 [bk]=sS tx)(kn on:Int):bX [bk,.int kn,.int on,.lst [.str "text"]]=sS tx:=by
 unfold bX;simp only[RR,al,Nat.reduceDiv,Nat.reduceMod];exact cB r4 (jS (pM (dm (.str "text") (.str "text") (dm (.lst [.str "text"]) (.int 0) r4 r4 (by rw[<-pP];rfl)) r4 X9)) (eP (yD [bk] r4 h)))
def tu (bk:D)(kn on:Int):fm bk kn on (.str "known 0")=some (.ok bk 0 on)/\fm bk kn on (.str "known 9999")=some (.ok bk 9999 on):=by
 constructor
 .rw[lF (s:=.lst [.str "known",.int 0]) O9];kernel_rfl
 .rw[lF (s:=.lst [.str "known",.int 9999]) O9];kernel_rfl
def Rw (bk:D)(kn on:Int){w:Nat}(h:w<9):fm bk kn on (.str ("on " ++ tS w))=some (.ok bk kn w):=by
 have:=bq (n:=9) (p:=λw=>nI ("on " ++ tS w) (.lst [.str "on",.int w])) O9 h;rw[lF this];rcases w with z|z|z|z|z|z|z|z|z|w;iterate 9 kernel_rfl
 lia
def vw {o:OB}(h:JM o=true):∃t b,o=some (.str t,b):=by
 unfold JM at h;split at h
 .exact⟨_,_,r4⟩
 .cases h
section
variable {I:LN}(hI:∀i∈I,i<11) (hl:2<=I.length/\I.length<=60) (ok:yE I=true)
include hI hl ok
theorem Ng:yy (d4 [.str (Ay I)]) (.tup (cQ I)):=by
 unfold yE at ok;simp only[vD]at ok;obtain⟨b,e⟩:=A1 (x:=.lst (cQ I)) (.inr r4) W9 ok.1.1.1.1.1;exact⟨b,DN (λi h=>Nat.lt_trans (hI i h) Z9) N9 (λz=>by rw[z]at hl;simp at hl) e r4⟩
theorem Rx {on:Nat}(U:on<9):∃t1 t2 t3,gR (.tup (cQ I)) 9999 on (.str "standing")=some (.str t1)/\gR (.tup (cQ I)) 9999 on (.str "holder king")=some (.str t2)/\gR (.tup (cQ I)) 9999 on (.str "stands 1")=some (.str t3):=by
 unfold yE at ok;simp only[vD]at ok;have a:=bq ok.2 U;simp only[vD]at a;refine cX λG g=>?_;obtain⟨t1,b1,b⟩:=vw a.1.1;obtain⟨t2,b2,e2⟩:=vw a.1.2;obtain⟨t3,d,c⟩:=vw a.2;apply g;have M:=F4 (.tup (cQ I)) 9999 jE X9;have O:=F4 (.tup (cQ I)) 9999 jF X9;have k1:=Rv jE X9;have k2:=Rv jF X9;have k3:=Rv qG X9;exact⟨t1,t2,t3,jZ tm k1.1 k1.2 M.1 M.2 b,jZ y9 k2.1 k2.2 O.1 O.2 e2,jZ F0 k3.1 k3.2 (Option.isNone_iff_eq_none.mp ok.1.2.1) ok.1.2.2 c⟩
theorem Ry {k:Nat}(hk:k<I.length)(M:k<12)(h:2<=I.getD k 0/\I.getD k 0<=4)(on:Int):bY (.tup (cQ I)) 0 on (.str (Fx k))=some kN:=by
 unfold yE at ok;simp only[vD]at ok;have a:=bq ok.1.1.2 (i:=k) N9;rw[Nat.ble_eq_true_of_le h.1,Nat.ble_eq_true_of_le h.2]at a;exact jb (vv M) (by simpa using a)
theorem Rz {row:PySem.Str}{M:D}(h:Due I.length row M)(on:Int):bY (.tup (cQ I)) 9999 on (.str row)=some M:=by
 have O:(cQ I).length=I.length:=X9
 unfold yE at ok;simp only[vD]at ok;have he:(cQ I).isEmpty=false:=by
  cases I with
  |nil=>simp at hl
  |cons=>rfl
 cases h with
 |word j h=>exact JJ h _ _ _
 |num k m hk h h2=>exact Nf hk h2 (by rw[O];exact h) _ _
 |flt j h=>
  rcases j with z|z|j
  .exact jb (vv (k:=0) Z9) ok.1.1.1.2.1
  .exact jb (vv (k:=1) Z9) ok.1.1.1.2.2
  .lia
 |root h=>
  have e:(if I.length=60 then 12 else 11)=11:=if_neg N9;rw[e]at ok;exact vt (d:=qJ 11) O9 he (by rw[O];lia) _ _ ⟨false,O ▸ Ru (by rw[O];lia) ok.1.1.1.1.1 ok.1.1.1.1.2⟩
 |death h=>
  have e:(if I.length=60 then 12 else 11)=12:=if_pos h;rw[e]at ok;exact vt (d:=qJ 12) O9 he (by rw[O];lia) _ _ ⟨false,O ▸ Ru (by rw[O];lia) ok.1.1.1.1.1 ok.1.1.1.1.2⟩
 |text j h=>
  have:=JL h (cQ I) 9999 on;rwa [O]at this
end
noncomputable def yA:LN:=[0,1]++(List.range 19).map (13 + ·)
def DQ:∀i∈yA,i<34:=Z9
def F5 {l:List (Option D)}(h:l[9]? = some (some qD)):yy (DK (env l)) (.lst (yA.map cY)):=by
 have e:∀ρ,da (lV (fC (.str "abcdefghijklmnopqrs"))) 1 [] (nA 0) dN (f2 dG (fC (.str ("9 lost 9 z" : PySem.Str))) (ai 0)) ρ=some (.lst ((yA.drop 2).map cY),true):=λρ=>
  show da (lV (fC (.str "abcdefghijklmnopqrs"))) 1 [] (nA 0) dN (f2 dG (fC (.str ("9 lost 9 z" : PySem.Str))) (ai 0)) []=_ from mi O9
 unfold DK;refine⟨true,jT (x:=qD) (b1:=false) (y:=.lst ((yA.drop 2).map cY)) (b2:=true) ?_ (e _) (mi O9)⟩;have:=cD h;simp[this]
def kg:fR (cQ yA)=true:=O9
def A3:yy (d4 [.str (Ay yA)]) (.tup (cQ yA)):=
 have ⟨b,e⟩:=A1 (x:=.lst (cQ yA)) (.inr r4) Z9 kg
 ⟨b,DN DQ Z9 Z9 e r4⟩
def F6:bY (.tup (cQ yA)) 9999 0 (.str "add 9 lost 9 zz")=some (.tup [.str "row",.int 21]):=
 vt (d:=qJ 32) O9 r4 Z9 _ _ ⟨false,Ru (l:=cQ yA) Z9 kg O9⟩
def yB {I:LN}(M:∀i∈I,i<34)(hl:I.length<=62)(kn on:Int):gR (.tup (cQ I)) kn on (.str "text")=some (.str (Ay I)):=
 have c:=F4 (.tup (cQ I)) kn _ (by simp:D.lst [.str "text"]∈_)
 have k:=Rv _ (by simp:D.lst [.str "text"]∈_)
 jZ y8 k.1 k.2 c.1 c.2 (tq (JD M hl) kn on)
def JN:fm (.tup (cQ yA)) 9999 0 (.str "add 9 found 9 za")=some (.ok (.tup (cQ yA++[qJ 33])) 9999 0):=
 Nd O9 r4 Z9 _ _ (Az kg O9)
def F7:yy (d4 [.str ""]) (.tup []):=Kk O9
def F8:gR (.tup []) 9999 0 (.str "text")=some (.str ""):=
 have c:=F4 (.tup []) 9999 _ (by simp:D.lst [.str "text"]∈_)
 have k:=Rv _ (by simp:D.lst [.str "text"]∈_)
 jZ y8 k.1 k.2 c.1 c.2 (tq (mi O9) _ _)
def A4:gR (.tup []) 9999 0 (.str "standing")=some (.str "none"):=
 have c:=F4 (.tup []) 9999 jE X9
 have k:=Rv jE X9
 have ⟨_,e⟩:=Kk (o:=bX [.tup [],.int 9999,.int 0,jE]) (d:=.str "none") O9
 jZ tm k.1 k.2 c.1 c.2 e
def F9:gR (.tup []) 9999 0 (.str "holder king")=some (.str "none"):=
 have c:=F4 (.tup []) 9999 jF X9
 have k:=Rv jF X9
 have ⟨_,e⟩:=Kk (o:=bX [.tup [],.int 9999,.int 0,jF]) (d:=.str "none") O9
 jZ y9 k.1 k.2 c.1 c.2 e
def JP:bY (.tup []) 9999 0 (.str "stands 0")=some kN:=jb (s:=.lst [.str "stands",.int 0]) O9 O9
def Zv:yE (bI 0 0 false)=true:=O9
def Z2:yE (bI 0 0 true)=true:=O9
def okT {m c:Nat}(hm:m<=6)(hc:c<8):yE (bI m c true)=true:=by
 rcases m with z|z|z|z|z|z|z|m
 .exact Z2
 iterate 6
  rcases c with z|z|z|z|z|z|z|z|c
  iterate 8 decide +kernel
  lia
 lia
def Nh {m c:Nat}{f:Bool}(hm:m<=6)(hc:c<8):yE (bI m c f)=true:=by
 cases f with
 |true=>exact okT hm hc
 |false=>
  rcases m with z|z|z|z|z|z|z|m
  .exact Zv
  iterate 6
   rcases c with z|z|z|z|z|z|z|z|c
   iterate 8 decide +kernel
   lia
  lia
def Wz {ρ:DL.Env}{fa:FA}{ds:LD}(h:fa ρ=some ds)(k:ds.length<=100000):fA cG fa ρ=sJ ds:=yD ds h (if_pos (aQ k))
def R0 {i:Nat}(h:i<34){ρ:DL.Env}{I:LN}{k:Nat}{b M:Bool}(h1:ρ[1]? = some (some (.lst (I.map cY),b)))(h4:ρ[4]? = some (some (.int k,M)))(hk:k<I.length)(hi:I.getD k 0=i):
  c8 (f2 qI (f2 eY (f2 gM (f2 eY (ai 1) (ai 4)) (fC (.str " "))) (fC (.int 1))) (fA cG (ak (fC (.str "leave")) (ak (fC (.str "paper")) (ak (fC (.str "copy")) aI))))) ρ=some (decide (2<=i/\i<=4)):=by
 have O:f2 eY (ai 1) (ai 4) ρ=sF (cY i):=by
  have:eY (.lst (I.map cY)) (.int k)=sF (cY i):=by
   rw[zV N9 (by simpa using hk)];simp[<-hi,hk]
  simp only[f2,ai,h1,h4,vJ,this]
 have e2:MW ((gM (cY i) (.str " ")).bind λx=>(eY x.1 (.int 1)).bind λw=>qI w.1 (.tup [.str "leave",.str "paper",.str "copy"])) (.bl (decide (2<=i/\i<=4)))=true:=
  bq (n:=34) (p:=λi=>MW ((gM (cY i) (.str " ")).bind λx=>(eY x.1 (.int 1)).bind λw=>qI w.1 (.tup [.str "leave",.str "paper",.str "copy"])) (.bl (decide (2<=i/\i<=4)))) O9 h
 obtain⟨b2,e2⟩:=Kk e2;refine eX e2 λx ex e2=>?_;refine eX e2 λw U e2=>?_;exact ml (jT (x:=w.1) (b1:=w.2) (y:=.tup [.str "leave",.str "paper",.str "copy"]) (b2:=false) (jT (x:=x.1) (b1:=x.2) (y:=.int 1) (b2:=false) (jT (x:=cY i) (b1:=false) (y:=.str " ") (b2:=false) O r4 ex) r4 U) (Wz r4 X9) e2)
def W1 {a:D}(h:bx 40 a=true)(e:ge a a=true):i6 a a=sO false:=by simp[h,e]
def R1:i6 kN kN=sO false:=W1 O9 O9
def Z3 {a b:D}{ρ:DL.Env}:fA cG (ak (fC a) (ak (fC b) aI)) ρ=sJ [a,b]:=Wz r4 X9
structure Bk (I:List Nat):Prop where
 lt:∀i∈I,i<11
 ln:2<=I.length/\I.length<=60
 ok:yE I=true
def JQ {I:LN}(h:∀i∈I,i<34):aU (.tup (cQ I))=true:=by
 rw[aU];induction I with
 |nil=>rw[cQ,map_nil,c7]
 |cons i I M=>
  rw[cQ,uZ,c7,(Wr (h i X9)).1];exact M λj hj=>h j (by simp[hj])
def Bk.no {I:LN}(B:Bk I):aU (.tup (cQ I))=true:=JQ λi h=>Nat.lt_trans (B.lt i h) Z9
def R3 (n:Nat):bU 2 n=(List.range n).map λ(k:Nat)=>D.int ((2+k:Nat):Int):=by
 unfold bU;refine List.map_congr_left λk z=>?_;rw[Int.natCast_add];rfl
def W2 {I:LN}(B:Bk I)(on:Int)(O U:D)(C a:Addr):∃k:Option D,Nb k/\Zh C (env [some O,some (.lst (I.map cY)),some U,some (fQ C a (.tup (cQ I)) 0 on),none,none,none,none,none,none,none,none,none])=some (.nx (env [some O,some (.lst (I.map cY)),some U,some (fQ C a (.tup (cQ I)) 0 on),k,none,none,none,none,none,none,none,none])):=by
 have hl:=B.ln;obtain⟨ρ',e,k,rfl,c⟩:=xD (tg:=nA 4) (g:=Rb C) (λz ρ=>∃k:Option D,ρ=env [some O,some (.lst (I.map cY)),some U,some (fQ C a (.tup (cQ I)) 0 on),k,none,none,none,none,none,none,none,none]/\Nb k) (bU 2 (I.length - 2)) _ ⟨none,r4,nb0⟩ (by
  rintro j d ρ hd ⟨k0,rfl,z⟩;rw[R3,vB]at hd;obtain⟨k,hk,rfl⟩:=oY hd;obtain⟨f,hk⟩:=vV hk;rw[length_range]at f;rw[getElem_range]at hk;subst hk;generalize l:2+j=k;have M:k<I.length:=N9
  refine⟨env [some O,some (.lst (I.map cY)),some U,some (fQ C a (.tup (cQ I)) 0 on),some (.int k),none,none,none,none,none,none,none,none],_,r4,.inl ?_,some (.int k),r4,λd h=>by cases h;simp[aU]⟩;have hi:I.getD k 0<34:=by
   have:=B.lt (I.getD k 0) (by rw[getD_eq_getElem?_getD,vU M];simp);lia
  have w:=R0 hi (ρ:=env [some O,some (.lst (I.map cY)),some U,some (fQ C a (.tup (cQ I)) 0 on),some (.int k),none,none,none,none,none,none,none,none]) (cD r4) (cD r4) M r4;unfold Rb;refine Ul (oy w λz=>pM (dm (.int k) (.int 12) r4 r4 r4)) (λh=>?_) λz=>r4;rw[vD]at h;have h1:=mw h.1;have h2:=mw h.2;have b:k<12:=N9
  refine zU (pM (dm kN kN (dm (fQ C a (.tup (cQ I)) 0 on) (.str (Fx k)) r4 (dm (.str "faults ") (.str (tS k)) r4 (yD [.int k] r4 (y6 N9).1) (J7 ?_)) (bp B.no (by simp[aU]) (Ry B.lt B.ln B.ok M b h1 on))) Z3 R1)) r4;have:=(y6 (m:=k) N9).2;have:("faults " : PySem.Str).length=7:=Z9
  lia)
 refine⟨k,c,iL (?_:oj _ _ _=some (bU 2 (I.length - 2))) e⟩;have i:fA cU (ak (ai 1) aI) (env [some O,some (.lst (I.map cY)),some U,some (fQ C a (.tup (cQ I)) 0 on),none,none,none,none,none,none,none,none,none])=sI I.length:=by
  show cU [.lst (I.map cY)]=_;rw[Bw,vI]
 unfold oj;rw[i];show(if _ then _ else _)=_;rw[if_pos N9];congr 2;lia
def Due.plain {n:Nat}{row:PySem.Str}{M:D}(h:Due n row M):i6 M M=sO false/\aU M=true:=by
 cases h<;>exact⟨by simp[ge,gD],by simp[aU,c7]⟩
def Ni {f:FE}{l:List (Option D)}{x y:D}(e:f (env l)=sJ [x,y]):wL [7,8] f (env l)=some (.nx (env ((l.set 7 (some x)).set 8 (some y)))):=by
 unfold wL;rw[e];show(dP [7,8] [x,y] (if _ then env l else DL.unown (env l))).map _=_;rw[d6,ite_self];show some (Res.nx _)=_;rw[vm,vm]
def R4 {ns:LI}(hf:Sb ns){I:LN}(B:Bk I)(on:Int)(f:D)(O t1 t2 t3:PySem.Str)(C a:Addr)(k0:Option D)
  (U:∀l:List (Option D),l[3]? = some (some (fQ C a (.tup (cQ I)) 9999 on))->l[5]? = some (some d7)->da (lV (ai 5)) 1 [3] (nA 0) dN (f2 (jW C) (ai 1) (ai 0)) (env l)=some (.lst [.str O,.str t1,.str t2,.str t3],true)):
  ∃k' r w:Option D,Nb k'/\Nb r/\Nb w/\Re C (env [some (sc ns),some (.lst (I.map cY)),some f,some (fQ C a (.tup (cQ I)) 9999 on),k0,some d7,some (.lst [.str O,.str t1,.str t2,.str t3]),none,none,none,none,none,none])=some (.nx (env [some (sc ns),some (.lst (I.map cY)),some f,some (fQ C a (.tup (cQ I)) 9999 on),k',some d7,some (.lst [.str O,.str t1,.str t2,.str t3]),r,w,none,none,none,none])):=by
 obtain⟨ρ',e,k,r,w,rfl,m⟩:=xE (tg:=nA 4) (g:=Rc C) 14 (λi ρ=>∃k r w:Option D,ρ=env [some (sc ns),some (.lst (I.map cY)),some f,some (fQ C a (.tup (cQ I)) 9999 on),k,some d7,some (.lst [.str O,.str t1,.str t2,.str t3]),r,w,none,none,none,none]/\(i=0\/(Nb k/\Nb r/\Nb w))) _ ⟨k0,none,none,r4,.inl r4⟩ (by
  rintro i ρ hi ⟨k,r,w,rfl,z⟩;obtain⟨c,ec⟩:=o9 hf (3+i) N9;have hc:0<=c % 1000000000000:=Int.emod_nonneg _ Z9;obtain⟨row,M,ed,n⟩:=Rp hc B.ln;obtain⟨o,p2⟩:=n.plain;refine⟨env [some (sc ns),some (.lst (I.map cY)),some f,some (fQ C a (.tup (cQ I)) 9999 on),some (.int i),some d7,some (.lst [.str O,.str t1,.str t2,.str t3]),r,w,none,none,none,none],_,r4,.inl ?_,some (.int i),some (.str row),some M,r4,.inr ⟨λd h=>by cases h;simp[aU],λd h=>by cases h;simp[aU],λd h=>by cases h;exact p2⟩⟩;unfold Rc;refine fD (Ni (x:=.str row) (y:=M) (yD [.int (c % 1000000000000),.lst (I.map cY)] (Og (dm (.int c) (.int 1000000000000) (yD [sc ns,.int (3+i:Nat)] (Og r4 (Og (dm (.int 3) (.int i) r4 r4 (by rw[Int.natCast_add];rfl)) r4)) ec) (dm (.int 10) (.int 12) r4 r4 (mi O9)) (MY _ Z9)) r4) ed)) ?_;refine cW (pM (dm M M (dm (fQ C a (.tup (cQ I)) 9999 on) (.str row) r4 r4 (bp B.no (by simp[aU]) (Rz B.lt B.ln B.ok n on))) r4 o)) ?_;exact zU (pM (jT (x:=.lst [.str O,.str t1,.str t2,.str t3]) (b1:=true) (y:=.lst [.str O,.str t1,.str t2,.str t3]) (b2:=false) (U _ r4 r4) r4 (by simp[ge,gD]))) r4)
 rcases m with m|⟨n1,n2,n3⟩
 .cases m
 exact⟨k,r,w,n1,n2,n3,iL (gr (j:=14) (b:=false) r4 Z9) e⟩
def law_true (ns:LI)(_:ns.length<=63)(hf:Sb ns):∃b,F_law [.lst (ns.map .int)]=some (.bl true,b):=by
 obtain⟨m,c,f,hm,hc,d⟩:=J0 hf;have B:Bk (bI m c f):=⟨Wt,by rw[Rn hm];split<;>lia,Nh hm hc⟩
 generalize bI m c f=I at d B;have O:∀i∈I,i<34:=λi h=>Nat.lt_trans (B.lt i h) Z9;obtain⟨M,e2⟩:=o9 hf 2 Z9;have e:=mod_lt (x:=M / 2) (m:=9) Z9;obtain⟨w,hw⟩:∃w:Nat,M / 2 % 9=w:=⟨(M / 2 % 9).toNat,N9⟩;obtain⟨on,U,o3⟩:∃on:Nat,on<9/\∃cb,(∀l,MT (env (some (sc ns)::l))=some cb)/\((cb=true/\∃w b,(∀l,Rh (env (some (sc ns)::l))=some (.str w,b))/\fm (.tup (cQ I)) 9999 0 (.str w)=some (.ok (.tup (cQ I)) 9999 on))\/(cb=false/\(on:Int)=0)):=by
  have t3:∀l,MT (env (some (sc ns)::l))=some (decide (M % 2=1)):=λl=>pM (dm (.int (M % 2)) (.int 1) (im (yz e2 r4) Z9) r4 By);by_cases z:M % 2=1
  .refine⟨w,N9,true,λl=>(t3 l).trans (by rw[kh z]),.inl ⟨r4,"on " ++ tS w,false,λl=>?_,Rw _ _ _ N9⟩⟩;have t:=y6 (m:=w) N9;refine dm (.str "on ") (.str (tS w)) r4 (yD [.int (M / 2 % 9)] (Og (im (Ws (yz e2 r4) Z9 Z9) Z9) r4) (by rw[hw];exact t.1)) (J7 ?_);have:("on " : PySem.Str).length=3:=Z9
   lia
  .exact⟨0,Z9,false,λl=>(t3 l).trans (by rw[mv z]),.inr ⟨r4,r4⟩⟩
 obtain⟨t1,t2,t3,a1,a2,a3⟩:=Rx B.lt B.ln B.ok U;have a0:=yB O (by have:=B.ln;lia) 9999 on;refine⟨false,if_pos ⟨ns,I.map cY,Ay I,Ay yA,t1,t2,t3,.tup (cQ I),.tup (cQ yA),.tup (cQ yA++[qJ 33]),.lst (yA.map cY),on,r4,?_⟩⟩;exact {
  L:=d
  J:=⟨false,vp O (by have:=B.ln;lia)⟩
  R:=Ng B.lt B.ln B.ok
  nb:=B.no
  nl:=jt _ (λy=>by simp[aU]) I
  o3:=o3
  k0:=(tu _ _ _).1
  n5:=λC a=>W2 B _ _ _ C a
  k9:=(tu _ _ _).2
  a0:=a0
  a1:=a1
  a2:=a2
  a3:=a3
  n10:=λC a k=>R4 hf B _ _ _ _ _ _ C a k λl h3 h5=>Wl (cD h3) (cD h5) (bp B.no (by simp[aU]) a0) (bp B.no (by simp[aU]) a1) (bp B.no (by simp[aU]) a2) (bp B.no (by simp[aU]) a3)
  c12:=λl h=>F5 h
  cJ:=⟨false,vp DQ Z9⟩
  cR:=A3
  nb2:=JQ DQ
  ncr:=by rw[aU];exact jt _ (λy=>by simp[aU]) yA
  c14:=F6
  c14t:=yB DQ Z9 _ _
  c15:=JN
  e16:=F7
  e17:=F8
  e17s:=A4
  e18:=JP
  e18h:=F9
  t19:=Fz _ _ _ }
end Lw
namespace DL
open PySem PySem.Spec PyProof.Rows L2
def nD.lawS {P:Program}{w:World}{K:Frag}{mg:SV}{x y:Str}{st:Stmt}{N:LS}{k:Nat}{sp:Sp}{h:Heap}{fa:Addr}(F:nD K x st)(X:K.In h)(G:h.Ns mainGlobals mg)(M:mg x=some (.ref fa))(S:FnScope N [y] (aj st))(len:∀vs H Q E,sp vs H Q E->vs.length=[y].length)
  (O:∀(kV doc pm:Value)(an:Option Addr)(bD ct:Value)(u:Value),bindArgs (fnOf x x (cf st) (aK st) (aj st) .none kV doc pm an bD ct) ⟨[u],[]⟩=pure [(y,u)])
  (hb:∀(base:Heap),K.In base->base.Ns mainGlobals mg->∀(f:Addr)(bD:Value)(A:Around)(outer:List PySem.Env)(s:Shared)(H:Hp)(E:XK)(vs:LV)(Q:VK),bB k (A.deeper (envOfC x (aj st) s.z f bD))->sp vs H Q E ->
   ∃t,kj (bK oR P w K mg base N x (aj st) f bD A outer s H E) (aK st) t/\t { nx:=λv H'=>Q .non H',rt:=Q } (L2.dD N vs) H):
  ∃fd:FuncData,(∀(s:Shared)(u:Value),BindsTo s fd ⟨[u],[]⟩ [(y,u)])/\∀base:Heap,K.In base->base.Ns mainGlobals mg->dI P w K mg base oR (k+1) fa fd [y] sp:=by
 obtain⟨f,fd,b,a⟩:=F;have e:=M.symm.trans (mg_of X G a);cases e
 obtain⟨oc,od,kV,doc,pm,an,bD,ct,gZ,rfl,lk,U⟩:=b.ex;exact⟨_,λs u=>.of_eq (O kV doc pm an bD ct u),λbase c nb=>m7 lk U S len λA outer s H vs Q E d g=>hb base c nb _ _ A outer s H E vs Q d g⟩
end DL
namespace Lw
open PySem PySem.Spec PyProof.Rows L2 DL EX
open PySem.W (nsIn isClsIn typeIn subIn keepIn findIn mroIn hasDictIn specialIn takesIn excIn isFn codeIn)
def cl0_mk {K:Frag}{x nm q:Str}{C N S:Addr}{bs:LU}{sn:LS}{sub:LU}{ab:Bool}{col:Option Bool}{dd:Option Addr}{k0 k1 k2 k3 k5:Option Value}
  (a0:nsIn K mainGlobals x=some (some (.ref C))) (a1:K.lookup C=some (excClassObj nm q C N bs (.ref S::EX.Ah) true sn sub ab col dd k0 k1 k2 k3 k5 "ValueError.__new__")) (a2:keepIn K (.ref C)=true)
  (a3:findIn K (.ref C) "__setattr__" = some (some (.builtin "object.__setattr__"))) (M:mroIn K C (.type "object")=some true)
  (O:findIn K (.ref C) "__getattribute__" = some (some (.builtin "BaseException.__getattribute__"))) (U:findIn K (.ref C) "__getattr__" = some none) (a:mroIn K C (.type "BaseException")=some true) (b:hasDictIn K C=true)
  (c:findIn K (.ref C) "__class__" = some (some (.builtin "object.__class__"))) (d:specialIn K (.builtin "object.__class__") "__get__" = some (some (.builtin "getset_descriptor.__get__"))) (b1:takesIn K (.builtin "object.__class__")=some true)
  (b2:excIn K C EX.Ah "ValueError.__new__" = true) (e:excIn K S EX.Ah "ValueError.__new__" = true):Cl0 K x C:=
 ⟨a0,⟨⟨_,_,_,_,_,_,_,_,_,_,_,_,_,_,_,a1,⟨Jj e,r4⟩,λself=>by rw[refuseLoop_ref];exact PySem.F.store_ValueError.passes self⟩,a2,a3,M⟩,⟨O,U,a,b,c,d,b1,M⟩,b2⟩
section
variable {K:Frag}{C:Addr}{m:Str}{f:Addr}{qual:Str}{st:Stmt}{oc kV doc pm bD ct:Value}{od an:Option Addr}{gZ:Array (Option Value)}
def meth_mk (a:findIn K (.ref C) m=some (some (.ref f)))(b:isFn K (.ref f)=true)(l:K.lookup f=some ⟨oc,od,.func (fnOf m qual (cf st) (aK st) (aj st) .none kV doc pm an bD ct),gZ⟩)(c:codeIn K bD qual=true)(k:keepIn K (.ref f)=true):
  ∃f fd q,qY K C m f/\DS K m q st f fd:=⟨f,_,qual,⟨a,b,k⟩,tQ l c k⟩
def make_mk (z:PySem.W.makesIn K C=true)(kc:keepIn K (.ref C)=true)(a:findIn K (.ref C) "__init__" = some (some (.ref f)))(b:isFn K (.ref f)=true)(l:K.lookup f=some ⟨oc,od,.func (fnOf "__init__" qual (cf st) (aK st) (aj st) .none kV doc pm an bD ct),gZ⟩)(c:codeIn K bD qual=true)(k:keepIn K (.ref f)=true):
  ∃f fd q,Mk K C f/\DS K "__init__" q st f fd:=⟨f,_,qual,⟨z,a,b,kc⟩,tQ l c k⟩
end
noncomputable def JR (a b c d:Addr):Nat->Addr
 |0=>a
 |1=>b
 |2=>c
 |_=>d
theorem Nj {p:Nat->Prop}(a:p 0)(b:p 1)(c:p 2)(d:p 3):∀i,i<4->p i
 |0,_=>a
 |1,_=>b
 |2,_=>c
 |3,_=>d
def er_mk {K:Frag}{a b c d S:Addr}(w:Cl0 K "NoWord" a)(n:Cl0 K "NoNumber" b)(t:Raw K "NoText" (gQ (jm 3)) c)(r:Raw K "NoRegister" (gQ (jm 2)) d)
  (E:nsIn K mainGlobals "SealError" = some (some (.ref S))) (s1:isClsIn K S=true) (s2:typeIn K (.ref S)=some (.type "type")) (M:subIn K (.ref S) (.type "BaseException")=some true)
  (F:isClsIn K a=true) (G:isClsIn K b=true) (H:isClsIn K c=true) (I:isClsIn K d=true) (J:typeIn K (.ref a)=some (.type "type")) (L:typeIn K (.ref b)=some (.type "type")) (N:typeIn K (.ref c)=some (.type "type")) (P:typeIn K (.ref d)=some (.type "type")) (Q:subIn K (.ref a) (.ref S)=some true) (R:subIn K (.ref b) (.ref S)=some true) (T:subIn K (.ref c) (.ref S)=some true) (xd:subIn K (.ref d) (.ref S)=some true) (V:subIn K (.ref a) (.type "ValueError")=some true) (W:subIn K (.ref b) (.type "ValueError")=some true) (X:subIn K (.ref c) (.type "ValueError")=some true) (Y:subIn K (.ref d) (.type "ValueError")=some true) (O:subIn K (.ref a) (.ref a)=some true) (U:subIn K (.ref a) (.ref b)=some false) (f:subIn K (.ref a) (.ref c)=some false) (g:subIn K (.ref a) (.ref d)=some false) (h:subIn K (.ref b) (.ref a)=some false) (k:subIn K (.ref b) (.ref b)=some true) (l:subIn K (.ref b) (.ref c)=some false) (m:subIn K (.ref b) (.ref d)=some false) (o:subIn K (.ref c) (.ref a)=some false) (p:subIn K (.ref c) (.ref b)=some false) (q:subIn K (.ref c) (.ref c)=some true) (s:subIn K (.ref c) (.ref d)=some false) (x:subIn K (.ref d) (.ref a)=some false) (y:subIn K (.ref d) (.ref b)=some false) (A:subIn K (.ref d) (.ref c)=some false) (B:subIn K (.ref d) (.ref d)=some true):Er K (JR a b c d) S:=by
 have u:∀i,i<4->isClsIn K (JR a b c d i)=true:=Nj F G H I;have v:∀i,i<4->typeIn K (.ref (JR a b c d i))=some (.type "type"):=Nj J L N P;have z:∀i,i<4->∀j,j<4->subIn K (.ref (JR a b c d i)) (.ref (JR a b c d j))=some (decide (i=j)):=Nj (Nj O U f g) (Nj h k l m) (Nj o p q s) (Nj x y A B);exact⟨w,n,t,r,E,λi j hi hj=>by
  have C:=z i hi i hi;rw[kh r4]at C;have D:=z i hi j hj;by_cases e:i=j
  .subst e;rw[kh r4];exact Jk (u i hi) (v i hi) C
  .rw[mv e]at D |-;exact Fo C (u j hj) (v j hj) D,Nj (vi V) (vi W) (vi X) (vi Y),Nj (lB s1 s2 Q M) (lB s1 s2 R M) (lB s1 s2 T M) (lB s1 s2 xd M)⟩
def tqk2 {w:World}{K:Frag}{mg:SV}{a i l}(h:KD w K mg a i)(t:∀p∈l,KD w K mg p.1 p.2):∀p∈(a,i)::l,KD w K mg p.1 p.2:=forall_mem_cons.mpr ⟨h,t⟩
section
variable {w:World}{K:Frag}{mg:SV}(T:Tx w K mg)
include T
theorem head {P:Program}{C S:Addr}{cl:Nat->Addr}{fa:Addr}(k:Dk K C)(er:Er K cl S)(dk:nD K "_law_looks" (jm 161))(c:mg "ValueError" = none)(M:mg "law" = some (.ref fa)):
  ∃fd:FuncData,(∀(s:Shared)(u:Value),BindsTo s fd ⟨[u],[]⟩ [("_law_script",u)])/\∀base:Heap,K.In base->base.Ns mainGlobals mg->dI P w K mg base oR 18 fa fd ["_law_script"] (PK K F_law):=by
 have U:FnScope O2 ["_law_script"] (aj (jm 163)):=by refine⟨r4,r4,r4,?_,r4,?_,?_⟩<;>decide +kernel
 have ⟨h,X,G⟩:=T.hX;refine nD.lawS (k:=17) (N:=O2) (T.a 106) X G M U (λvs H Q E ⟨B,ds,d,b,j,i,e,q⟩=>?_) (λ_ _ _ _ _ _ u=>r4) λbase l nb f bD A outer s H E vs Q g O=>MV T k er dk c U.nd g O;unfold F_law at e;split at e
 .rename_i hx;obtain⟨ns,_,_,_,_,_,_,_,_,_,_,_,rfl,_⟩:=hx;exact i.length
 .cases e
end
end Lw
end
end Lake
open Lake
open PySem PySem.W PyProof.Rows
set_option maxRecDepth 100000 in
set_option maxHeartbeats 0 in
theorem PySem.Challenge.cw_sealchain_k51_the_desk_refuses_holds : PySem.Challenge.rw_sealchain_k51_the_desk_refuses.Holds := by
 w_on; refine Lake.hd ?_
 k_fill
 refine' DL.walkB (l := PySem.Challenge.rw_sealchain_k51_the_desk_refuses) (k := 18) (x := ("_law_script" : PySem.Str)) (f := Lw.F_law) (L := [(("in_order" : PySem.Str), ?t0), (("has_seal" : PySem.Str), ?t1), (("is_first_death" : PySem.Str), ?t2), (("bases_by" : PySem.Str), ?t3), (("as_heard" : PySem.Str), ?t4)]) rfl rfl ⟨rfl, by decide, by decide⟩ (fun w h Y => PySem.W.km_in_of Y) ?T ?D ?F Lw.law_true
 case T =>
  intro w
  refine' DL.tabs_fit ?h0 ?h1 ?h2 ?h3 ?h4 ?ap ?nt
  iterate 5 (refine' DL.tab_yes ?a ?l ?c ?m ?v; (case a => k_is); (case l => k_is); (case c => exact rfl); (case m => k_is); (case v => exact rfl))
  decide
  kernel_rfl
 case D => kernel_rfl
 case F =>
  intro w mg fa h KX G hmg
  refine' Lw.head ⟨⟨h, KX, G⟩, ?ds, ?cs, ?dc, ?no, ?ls⟩ ?dk ?er ?lk (PySem.W.mg_none_of KX G ?zV) hmg
  case ds =>
   iterate 107 (refine' Lw.tqdC (DL.def_mk ?a ?l ?c ?k) ?_; (case a => k_is); (case l => k_is); (case c => k_is); (case k => k_is))
   nofun
  case cs =>
   iterate 2 (refine' Lw.tqcC (DL.kc_of KX G (DL.const_int ?e)) ?_; (case e => k_is))
   refine' Lw.tqcC (DL.kc_of KX G (DL.const_str ?e)) ?_; (case e => k_is)
   iterate 6 (refine' Lw.tqcC (DL.kc_of KX G (DL.const_int ?e)) ?_; (case e => k_is))
   refine' Lw.tqcC (DL.kc_of KX G (DL.const_str ?e)) ?_; (case e => k_is)
   iterate 5 (refine' Lw.tqcC (DL.kc_of KX G (DL.const_tup ?e ?l ?v)) ?_; (case e => k_is); (case l => k_is); (case v => decide +kernel))
   nofun
  case dc =>
   refine' Lw.tqk2 (DL.kd_of KX G (DL.const_dict ?e ?l ?r ?s)) ?_; (case e => k_is); (case l => k_is)
   (case r => (iterate 11 (refine' DL.CRows.tup rfl ?l ?f ?_; (case l => k_is); (case f => decide +kernel))); exact DL.CRows.nil)
   (case s => decide +kernel)
   refine' Lw.tqkC (DL.kd_of KX G (DL.const_dict ?e ?l ?r ?s)); (case e => k_is); (case l => k_is)
   (case r => (iterate 12 (refine' DL.CRows.tup rfl ?l ?f ?_; (case l => k_is); (case f => decide +kernel))); exact DL.CRows.nil)
   decide +kernel
  case no =>
   iterate 18 (refine' Lw.tqnC (PySem.W.mg_none_of KX G ?z) ?_; (case z => k_is))
   nofun
  case ls =>
   iterate 4 (refine' Lw.tqlC (DL.lam_mk ?a ?l ?c ?m ?v1 ?v2 ?v3 ?v4 ?v5 ?v6 ?v7) ?_; (case a => k_is); (case l => k_is); (case c => exact rfl); (case m => k_is); (case v1 => exact rfl); (case v2 => exact rfl); (case v3 => exact rfl); (case v4 => exact rfl); (case v5 => exact rfl); (case v6 => exact rfl); (case v7 => decide))
   nofun
  (case zV => k_is)
  (case lk => refine' DL.def_mk ?a ?l ?c ?k; (case a => k_is); (case l => k_is); (case c => k_is); (case k => k_is))
  case dk =>
   refine' ⟨?n, ⟨?c1, ?c2, ?c3, ?c4⟩, ?b1, ?b2, ?b3, Lw.make_mk ?m1 ?m2 ?m3 ?m4 ?m5 ?m6 ?m7, Lw.meth_mk ?p1 ?p2 ?p3 ?p4 ?p5, Lw.meth_mk ?q1 ?q2 ?q3 ?q4 ?q5⟩
   (case n => k_is)
   (case c1 => k_is); (case c2 => k_is); (case c3 => k_is); (case c4 => k_is); (case b1 => unfold L2.NoAttr; k_is); (case b2 => unfold L2.NoAttr; k_is); (case b3 => unfold L2.NoAttr; k_is); (case m1 => k_is); (case m2 => k_is); (case m3 => k_is); (case m4 => k_is); (case m5 => k_is); (case m6 => k_is); (case m7 => k_is); (case p1 => k_is); (case p2 => k_is); (case p3 => k_is); (case p4 => k_is); (case p5 => k_is); (case q1 => k_is); (case q2 => k_is); (case q3 => k_is); (case q4 => k_is); (case q5 => k_is)
  case er =>
   refine' Lw.er_mk (Lw.cl0_mk ?wa0 ?wa1 ?wa2 ?wa3 ?wa4 ?wa5 ?wa6 ?wa7 ?wa8 ?wa9 ?wb0 ?wb1 ?wb2 ?wb8) (Lw.cl0_mk ?na0 ?na1 ?na2 ?na3 ?na4 ?na5 ?na6 ?na7 ?na8 ?na9 ?nb0 ?nb1 ?nb2 ?nb8) (DL.raw_mk ?ta0 ?ta1 ?ta2 ?ta3 ?ta4 ?ta5 ?ta6 ?ta7 ?ta8 ?ta9 ?tb0 ?tb1 ?tb2 ?tb3 ?tb4 ?tb5 ?tb6 ?tb7 ?tb8) (DL.raw_mk ?ra0 ?ra1 ?ra2 ?ra3 ?ra4 ?ra5 ?ra6 ?ra7 ?ra8 ?ra9 ?rb0 ?rb1 ?rb2 ?rb3 ?rb4 ?rb5 ?rb6 ?rb7 ?rb8) ?S0 ?S1 ?S2 ?S3 ?ua ?ub ?uc ?ud ?va ?vb ?vc ?vd ?xa ?xb ?xc ?xd ?ya ?yb ?yc ?yd ?zaa ?zab ?zac ?zad ?zba ?zbb ?zbc ?zbd ?zca ?zcb ?zcc ?zcd ?zda ?zdb ?zdc ?zdd
   (case wa0 => k_is); (case wa1 => k_is); (case wa2 => k_is); (case wa3 => k_is); (case wa4 => k_is); (case wa5 => k_is); (case wa6 => k_is); (case wa7 => k_is); (case wa8 => k_is); (case wa9 => k_is); (case wb0 => k_is); (case wb1 => k_is); (case wb2 => k_exc); (case wb8 => k_exc); (case na0 => k_is); (case na1 => k_is); (case na2 => k_is); (case na3 => k_is); (case na4 => k_is); (case na5 => k_is); (case na6 => k_is); (case na7 => k_is); (case na8 => k_is); (case na9 => k_is); (case nb0 => k_is); (case nb1 => k_is); (case nb2 => k_exc); (case nb8 => k_exc); (case ta0 => k_is); (case ta1 => k_is); (case ta2 => k_is); (case ta3 => k_is); (case ta4 => k_is); (case ta5 => k_is); (case ta6 => k_is); (case ta7 => k_is); (case ta8 => k_is); (case ta9 => k_is); (case tb0 => k_is); (case tb1 => k_is); (case tb2 => k_is); (case tb3 => k_is); (case tb4 => k_is); (case tb5 => k_is); (case tb6 => k_is); (case tb7 => k_is); (case tb8 => k_exc); (case ra0 => k_is); (case ra1 => k_is); (case ra2 => k_is); (case ra3 => k_is); (case ra4 => k_is); (case ra5 => k_is); (case ra6 => k_is); (case ra7 => k_is); (case ra8 => k_is); (case ra9 => k_is); (case rb0 => k_is); (case rb1 => k_is); (case rb2 => k_is); (case rb3 => k_is); (case rb4 => k_is); (case rb5 => k_is); (case rb6 => k_is); (case rb7 => k_is); (case rb8 => k_exc); (case S0 => k_is); (case S1 => k_is); (case S2 => k_is); (case S3 => k_is); (case ua => k_is); (case ub => k_is); (case uc => k_is); (case ud => k_is); (case va => k_is); (case vb => k_is); (case vc => k_is); (case vd => k_is); (case xa => k_is); (case xb => k_is); (case xc => k_is); (case xd => k_is); (case ya => k_is); (case yb => k_is); (case yc => k_is); (case yd => k_is); (case zaa => k_is); (case zab => k_is); (case zac => k_is); (case zad => k_is); (case zba => k_is); (case zbb => k_is); (case zbc => k_is); (case zbd => k_is); (case zca => k_is); (case zcb => k_is); (case zcc => k_is); (case zcd => k_is); (case zda => k_is); (case zdb => k_is); (case zdc => k_is); (case zdd => k_is)
